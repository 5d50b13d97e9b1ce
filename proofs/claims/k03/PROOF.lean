import PyProof.Rows.All
import PySem.Challenge.RW_thinslopes_k03_whole_groupings_all_and_r
import Wide.All
import OpenK.AllK
import Wide.FinOn
import KE.KStateDown
import HandS.Base
import HandS.Call
import HandS.Defaults
import HandS.Words
import HandS.Head0
import HandS.Head1
import HandS.Head2
import HandS.HeadHook1
import HandS.HeadHook2
import HandS.ForMost
import HandS.ForExc
import HandS.EndBits
import HandS.Wide
import HandS.ExcInit
import HandS.ExcIs
import HandS.IsInst
import HandS.Flow
import HandS.Style
import KE.KExcIs
import HandS.TryMany
import HandS.ExcValue
import PyProof.ReprBulk
import HandS.Iter
import HandS.Walk
import PyProof.EnumMake
import PyProof.TupleIter
import KE.DataMinMax
import HandS.SortKw
import HandS.GenList
import HandS.ExcField
import HandS.CallSlots
import HandS.TupAny
import HandS.Evl
import HandS.More
import HandS.Star
set_option Elab.async false
set_option linter.all false
set_option maxRecDepth 100000
set_option maxHeartbeats 2000000
/-! the head: what is asked of the objects behind the top, and the run -/
namespace Hx
open PySem PySem.Spec PyProof.Rows L2 He
def top (i : Nat) : Stmt := PySem.Challenge.pw_thinslopes_k03_whole_groupings_all_and_r.main.body.getD i (.Pass ⟨0, 0, 0, 0⟩)
def bm (S : Addr) : List Value := [.ref S, .type "ValueError", .type "Exception", .type "BaseException", .type "object"]
def rowB (K : PySem.W.Frag) (S C : Addr) (nm : Str) : Bool := match K.lookup C with
  | some ⟨.type t, _, .cls cd, sl⟩ => decide (t = "type") && (decide (cd.name = nm) && (decide (cd.mro = .ref C :: bm S) && (cd.hasDict && (!cd.hasDel && (match sl.toList with
    | [_, _, _, _, some (.builtin n), _] => decide (n = "ValueError.__new__")
    | _ => false)))))
  | _ => false
def findB (K : PySem.W.Frag) (C : Addr) (f : Str) (r : Option Value) : Bool := eqO (PySem.W.findIn K (.ref C) f) (some r)
def clsB (K : PySem.W.Frag) (nm : Str) : Bool := rowB K (ga K "SlopeError") (ga K nm) nm && (findB K (ga K nm) "__setattr__" (some (.builtin "object.__setattr__")) && (findB K (ga K nm) "__getattribute__" (some (.builtin "BaseException.__getattribute__")) &&
  (findB K (ga K nm) "__getattr__" none && (findB K (ga K nm) "__class__" (some (.builtin "object.__class__")) && PySem.W.keepIn K (.ref (ga K nm))))))
def iniB (K : PySem.W.Frag) (nm : Str) : Bool := findB K (ga K nm) "__init__" (some (.ref (ma K (ga K nm) "__init__"))) && decide (PySem.W.typeIn K (.ref (ma K (ga K nm) "__init__")) = some (.type "function"))
def oneB (K : PySem.W.Frag) (x : Str × Str) : Bool := clsB K x.1 && (findB K (ga K x.1) x.2 none && iniB K x.1)
def sysB (K : PySem.W.Frag) : Bool := match K.lookup sysModules with
  | some o => decide (o.cls = .type "dict")
  | none => false
def x1 : List (Str × Str) := [("BadGrouping", "index"), ("BadCount", "count")]
def exB (K : PySem.W.Frag) : Bool := sysB K && x1.all (oneB K)
def dFn (x : Str) (i : Nat) : DefD := ⟨(x, none), x, x, defArgs (top i), defBody (top i), defScope (top i), [], []⟩
def dIn (x ql : Str) (i : Nat) : DefD := ⟨(x, some "__init__"), "__init__", ql, defArgs (inClass (top i) 0), defBody (inClass (top i) 0), defScope (inClass (top i) 0), [], []⟩
def dDf (x : Str) (i : Nat) (ds : List Dv) : DefD := ⟨(x, none), x, x, defArgs (top i), defBody (top i), defScope (top i), ds, []⟩
def fn : List DefD := [dFn "is_sequence" 5, dFn "unshared" 7, dFn "groups_many" 11, dFn "check_count" 12, dFn "all_groupings" 13, dFn "count_groupings" 14, dFn "book_of" 15, dFn "_law_hand" 17, dFn "_law_mixed" 18, dFn "_law_take" 19, dFn "_law_many" 20, dFn "_law_grouping" 21, dFn "_law_rid" 22, dFn "_law_seq" 23, dFn "_law_int" 24, dFn "_law_within" 25, dFn "_law_row" 26, dFn "_law_spoiled" 27, dFn "_law_all" 28, dFn "_law_counted" 29, dFn "_law_count" 30, dFn "_law_checked" 31, dFn "_law_checked_due" 32, dFn "_law_book_due" 33, dFn "law" 34, dDf "is_whole" 6 [.non, .non], dDf "misnumbered_at" 8 [.bl false], dDf "check_grouping" 10 [.bl false], dIn "BadGrouping" "BadGrouping.__init__" 2, dIn "BadCount" "BadCount.__init__" 3]
def fa : List Fa := [.glo "is_sequence", .glo "unshared", .glo "groups_many", .glo "check_count", .glo "all_groupings", .glo "count_groupings", .glo "book_of", .glo "_law_hand", .glo "_law_mixed", .glo "_law_take", .glo "_law_many", .glo "_law_grouping", .glo "_law_rid", .glo "_law_seq", .glo "_law_int", .glo "_law_within", .glo "_law_row", .glo "_law_spoiled", .glo "_law_all", .glo "_law_counted", .glo "_law_count", .glo "_law_checked", .glo "_law_checked_due", .glo "_law_book_due", .glo "law", .glo "is_whole", .glo "misnumbered_at", .glo "check_grouping", .glo "BadGrouping", .glo "BadCount", .free "len", .free "int", .free "abs", .free "isinstance", .free "bool", .free "list", .free "tuple", .free "range", .free "enumerate", .free "max", .free "min", .free "repr"]
def adr : List Addr := [3, 1, 24, 23, 44, 43, 41, 40, 63, 62, 60, 59, 73, 88, 96, 72, 71, 80, 79, 87, 86, 95, 94, 103, 102, 108, 107, 115, 114, 120, 119, 127, 126, 132, 131, 139, 138, 146, 145, 153, 152, 160, 159, 167, 166, 174, 173, 181, 180, 188, 187, 195, 194, 202, 201, 209, 208, 216, 215, 223, 222, 230, 229, 237, 236, 244, 243, 249, 248, 254, 253]
abbrev AlH : Type := AlD × Bool
def obsH (g : Addr → Option Obj) : AlH := (obsD fa fn (frG g adr), exB (frG g adr))
def SaysH (K : PySem.W.Frag) : Prop := SaysD fa fn K ∧ exB K = true
def hk : PySem.W.Hook where
  α := AlH
  obs := fun s => obsH s.heap.get?
  val := fun _ => (valD fn, true)
  says := fun _ h => ∃ K : PySem.W.Frag, K.In h ∧ SaysH K
  of := fun _ _ e => ⟨_, frG_in, congrArg (fun z : AlH => z.1) e, congrArg (fun z : AlH => z.2) e⟩
  keeps := fun _ _ _ ⟨K, hK, c⟩ k => ⟨K, PySem.W.Frag.In.keeps hK k, c⟩
def ob (s : PySem.W.SharedT) : AlH := obsH (HandSHeadRun.getT s)
theorem ob_eq (s : PySem.W.SharedT) : ob s = hk.obs s.abs := by
  have e : HandSHeadRun.getT s = s.abs.heap.get? := funext (HandSHeadRun.getT_eq s)
  unfold ob
  rw [e]
  rfl
abbrev R : PySem.W.OpenRow := PySem.W.OpenLaw.row PySem.Challenge.rw_thinslopes_k03_whole_groupings_all_and_r
def keep : List Nat := [1, 2, 3, 5, 7, 11, 12, 13, 14, 15, 17, 18, 19, 20, 21, 22, 23, 24, 25, 26, 27, 28, 29, 30, 31, 32, 33, 34]
def loose : List Str := ["is_whole", "misnumbered_at", "check_grouping"]
end Hx
namespace HandSHeadRun
open PySem PySem.W PySem.Calls PyProof.Rows Hx
/-- the state behind the top -/
noncomputable def endR (w : World) (os : OsState) : Option SharedT := endF (stepQ (denQ tabQ) R.prog w) 3240 R.prog w os
abbrev qR : Program := view R.prog keep
noncomputable def seenR (s : SharedT) := seenQ qR loose (importedModules R.prog.main.body) (fun s => xlAt qR [] s && recOk R.toRowW.records s) s.abs
abbrev goodR := openGood qR loose
theorem runA (w : World) (os : OsState) : (endR w os).map (fun s => (looksF R.prog (boot_heap w.params) s.abs, seenR s)) = some (true, goodR) := by kernel_rfl
theorem runB (w : World) (os : OsState) : (endR w os).map (fun s => He.obsD fa fn (He.frG (getT s) adr)) = some (He.valD fn) := by kernel_rfl
theorem runC (w : World) (os : OsState) : (endR w os).map (fun s => exB (He.frG (getT s) adr)) = some true := by kernel_rfl
section
variable {α F G Y : Type} {o : Option α} {f : α → F} {l : F} {S : α → G} {g : G} {p : α → Y} {y : Y} {q : α → Bool}
theorem joinR (h1 : o.map (fun s => (f s, S s)) = some (l, g)) (h3 : o.map p = some y) (h4 : o.map q = some true) : o.map (fun s => (f s, S s, p s, q s)) = some (l, g, y, true) := by
  cases o with
  | none => cases h1
  | some s =>
    have e1 : (f s, S s) = (l, g) := Option.some.inj h1
    have e3 : p s = y := Option.some.inj h3
    have e4 : q s = true := Option.some.inj h4
    simp only [Prod.mk.injEq] at e1
    obtain ⟨a, b⟩ := e1
    show some (f s, S s, p s, q s) = some (l, g, y, true)
    rw [a, b, e3, e4]
end
theorem runR (w : World) : RunEq R qR hk ob 3240 loose w := by
  intro os
  show (endR w os).map (fun s => (looksF R.prog (boot_heap w.params) s.abs, seenR s, He.obsD fa fn (He.frG (getT s) adr), exB (He.frG (getT s) adr))) = some (true, goodR, He.valD fn, true)
  exact joinR (runA w os) (runB w os) (runC w os)
end HandSHeadRun
set_option Elab.async false
set_option linter.all false
set_option maxRecDepth 100000
set_option maxHeartbeats 4000000
/-! A def's promise where no display is being shown around it, so that repr of data may be called within. -/
namespace Gk
open PySem PySem.Spec PyProof.Rows L2
/-- nothing is being shown -/
def Quiet (A : Around) : Prop := A.guards = some []
theorem Quiet.dp {A : Around} {en : Env} (q : Quiet A) : Quiet (A.deeper en) := q
structure GOk (P : Program) (w : World) (K : PySem.W.Frag) (mg : Str → Option Value) (base : Heap)
    (CX : CXT) (k : Nat) (f : Addr) (fd : FuncData) (ps : List Str) (sp : Sp) : Prop where
  ln : ∀ xs H Q E, sp xs H Q E → xs.length = ps.length
  go : ∀ (A : Around) (ou : List Env) (st : Shared) (H : Hp) (ar : Args) (vs : List Value) (xs : List V) (Q : VK) (E : XK),
    Quiet A → Room k A → Env0 P w K mg base A ou st H → BindsTo st fd ar (ps.zip vs) → Vals xs vs → sp xs H Q E →
    codeAny (model P w) A (.call (.ref f) ar) (CR CX ou P w H st Q E) st
section
variable {P : Program} {w : World} {K : PySem.W.Frag} {mg : Str → Option Value} {base : Heap} {CX : CXT}
theorem GOk.up {j k : Nat} {f : Addr} {fd : FuncData} {ps : List Str} {sp : Sp}
    (G : GOk P w K mg base CX j f fd ps sp) (h : j ≤ k) : GOk P w K mg base CX k f fd ps sp :=
  ⟨G.ln, fun A ou st H ar vs xs Q E q r => G.go A ou st H ar vs xs Q E q (r.mono h)⟩
theorem GOk.ofF {k : Nat} {f : Addr} {fd : FuncData} {ps : List Str} {sp : Sp}
    (F : FnOk P w K mg base CX k f fd ps sp) : GOk P w K mg base CX k f fd ps sp :=
  ⟨F.len, fun A ou st H ar vs xs Q E _ r => F.run A ou st H ar vs xs Q E r⟩
/-- the body of a def, read where nothing is being shown -/
theorem g_body {nm ql : Str} {stm : Stmt} {f : Addr} {fd : FuncData} {N ps : List Str} {k : Nat} {sp : Sp}
    (F : ∃ (oc : Value) (od : Option Addr) (dV kV dc pm : Value) (an : Option Addr) (cv ct : Value) (sl : Array (Option Value)),
      fd = PySem.W.fnOf nm ql (defArgs stm) (defBody stm) (defScope stm) dV kV dc pm an cv ct ∧
      K.lookup f = some ⟨oc, od, .func fd, sl⟩ ∧ PySem.W.codeIn K cv ql = true)
    (S : FnScope N ps (defScope stm)) (ln : ∀ xs H Q E, sp xs H Q E → xs.length = ps.length)
    (hb : ∀ (cv : Value) (A : Around) (ou : List Env) (st : Shared) (H : Hp) (xs : List V) (Q : VK) (E : XK),
      Quiet A → Room k (A.deeper (envOfC ql (defScope stm) st.heap.objs.size f cv)) → sp xs H Q E →
      ∃ t, PSs (cxOf CX P w K mg base N ql (defScope stm) f cv A ou st H E) (defBody stm) t ∧
        t { nx := fun _ H' => Q .non H', rt := Q } (start N xs) H) :
    GOk P w K mg base CX (k + 1) f fd ps sp := by
  obtain ⟨oc, od, dV, kV, dc, pm, an, cv, ct, sl, ef, lk, hc⟩ := F
  subst ef
  refine ⟨ln, fun A ou st H ar vs xs Q E qa rm e0 bd rv hs => ?_⟩
  have e1 := ln _ _ _ _ hs
  have kin : K.In st.heap := e0.mod.kin.keeps fun b o z => (e0.bs b o z).1
  have nol : st.heap.NoLimit := e0.mod.nolimit.keeps fun b o z => (e0.bs b o z).1
  have knd : ∀ y ∈ ps.zip vs, (defScope stm).names.lookup y.1 = some .local ∨
      ((defScope stm).names.lookup y.1 = some .cell ∧
        ((cellsFrom (st.heap.objs.size + 1) (defScope stm).names []).lookup y.1).isSome = true) := by
    rintro ⟨n, v⟩ hy
    cases S.par n (List.of_mem_zip hy).1 with
    | inl z => exact Or.inl z
    | inr z => exact Or.inr ⟨z, PySem.W.cellsFrom_some _ _ _ (Or.inl z)⟩
  refine codeAny_call_function rm.depth (kin _ _ lk) rfl S.co S.gen rfl (PySem.W.codeRec_of kin hc) (bd _ _ _ _ ?_)
  refine wpAny_newFunctionEnv_cells S.kind knd fun en hen s1 ic => ?_
  subst hen
  refine ⟨nol.keeps ic.toInCall.keep, codeAny_func ?_⟩
  obtain ⟨t, pt, ht⟩ := hb cv A ou st H xs Q E qa (rm.deeper _) hs
  have J := inv_start (CX := CX) (E := E) S rm.hd e0 e1 rv ic
  refine wpAny_mono (pt.run [] s1 (start N xs) H _ J ht) (fun fl s2 z => ?_) fun _ _ z => z
  cases fl with
  | ret u =>
    obtain ⟨v, σ2, H2, J2, rr, q2⟩ := z
    exact ⟨v, H2, J2.os, J2.bare, J2.base, J2.hok, rr, q2⟩
  | next =>
    obtain ⟨σ2, H2, J2, q2⟩ := z
    exact ⟨V.non, H2, J2.os, J2.bare, J2.base, J2.hok, rfl, q2⟩
  | brk => exact z.elim fun _ z => z.elim fun _ z => z.2.elim
  | cont => exact z.elim fun _ z => z.elim fun _ z => z.2.elim
theorem fun_ex {nm ql : Str} {stm : Stmt} {f : Addr} {fd : FuncData} (F : Fun K nm ql stm f fd) :
    ∃ (oc : Value) (od : Option Addr) (dV kV dc pm : Value) (an : Option Addr) (cv ct : Value) (sl : Array (Option Value)),
      fd = PySem.W.fnOf nm ql (defArgs stm) (defBody stm) (defScope stm) dV kV dc pm an cv ct ∧
      K.lookup f = some ⟨oc, od, .func fd, sl⟩ ∧ PySem.W.codeIn K cv ql = true := by
  obtain ⟨oc, od, kV, dc, pm, an, cv, ct, sl, a, b, c⟩ := F.ex
  exact ⟨oc, od, .none, kV, dc, pm, an, cv, ct, sl, a, b, c⟩
end
section
variable {X : Cx} {CX : CXT} {k : Nat} {f : Addr} {fd : FuncData} {ps : List Str} {sp : Sp} {dvs : List V} {ds : List Value} {E : XK}
theorem g_run {pins : List (Addr × Obj)} {σ : L2.St} {H : Hp} {st : Shared} {Q : VK} {vs : List Value} {xs : List V}
    (G : GOk X.prog X.w X.K X.mg X.base CX k f fd ps sp) (qa : Quiet X.A) (rm : Room k X.A) (hb : Binds X.K fd ps ds)
    (hd : Vals dvs ds) (hx : Passes CX X E) (I : Inv X pins σ H st) (r : Vals xs vs) (h : sp (xs ++ dvs) H Q E) :
    wpAny (model X.prog X.w) X.A (call (.ref f) vs) (EP X pins σ Q) X.xe st := by
  have rr : Vals (xs ++ dvs) (vs ++ ds) := Vals.append r hd
  have el : (vs ++ ds).length = ps.length := (Vals.length rr).symm.trans (G.ln _ _ _ _ h)
  have c := G.go X.A X.stack st H ⟨vs, []⟩ (vs ++ ds) (xs ++ dvs) Q E qa rm I.env0 (hb st vs I.kIn el) rr h
  refine wpAny_call (codeAny_mono c fun res s2 z => ?_)
  cases res with
  | error e => exact hx pins σ H st e s2 I z
  | ok fl => cases fl <;> first | exact I.after z | exact False.elim z
theorem pe_g {x : Str} {p pos : Pos} {e : Expr} {es : List Expr} {t : TA}
    (G : GOk X.prog X.w X.K X.mg X.base CX k f fd ps sp) (qa : Quiet X.A) (rm : Room k X.A) (hg : Gl X x)
    (hm : X.mg x = some (.ref f)) (hk : PySem.W.keepIn X.K (.ref f) = true) (hb : Binds X.K fd ps ds) (hd : Vals dvs ds)
    (hx : Passes CX X E) (ha : PA X (e :: es) t) (hdb : (x == ("__debug__" : Str)) = false := by decide)
    (he : starEach (e :: es) X.env = (false, eval e X.env) :: starEach es X.env := by rfl)
    (hpl : (backTo pos (starEach es X.env)).any (·.1) = false := by rfl) :
    PE X (.Call (.Name x p) (e :: es) [] pos) (tCall sp dvs E t) := by
  constructor
  intro pins s σ H Q I h
  refine wpAny_Call_Name_kw (ld_glob I hg hm ?_ hdb)
  refine PySem.W.callWith_K (h₀ := X.base) I.ok.mod.kin hk ?_ he hpl
  refine thn (ha.run pos pins s σ H _ I h) fun us s1 z => ?_
  obtain ⟨xs, H1, I1, r, q⟩ := z
  exact ⟨I1.kIn, g_run G qa rm hb hd hx I1 r q⟩
end
/-! ### repr of data -/
/-- repr(x): x a whole of data without dicts -/
def rRepr (K : PySem.W.Frag) : List V → Hp → VK → Prop := fun xs H Q => ∃ (x : V) (d : PyData), xs = [x] ∧ Dp K H x d ∧
  d.showable = true ∧ d.hasDict = false ∧ d.depth ≤ 50 ∧ d.shown.length ≤ sizeLine ∧ Q (.str d.shown) H
theorem call_repr {X : Cx} (qa : Quiet X.A) (hu : X.A.units + 64 < cLine) : CallR X (.builtin "repr") (rRepr X.K) := by
  intro pins s σ H xs us Q I r h
  obtain ⟨x, d, rfl, hd, sh, nd, dp, sz, q⟩ := h
  obtain ⟨u, rfl, ru⟩ := vals1 r
  obtain ⟨as, rd⟩ := Dp.reads I d x u hd ru
  have keep : ∀ (h' : Heap) (t : Tok) (tk : Nat), (∀ b o, s.heap.get? b = some o → h'.get? b = some o) →
      EP X pins σ Q (.str d.shown t) { s with heap := h', toks := tk } :=
    fun h' t tk k => ⟨.str d.shown, H, I.kept (t' := tk) k, ⟨t, rfl⟩, q⟩
  have flat : ∀ (t : Tok) (tk : Nat), EP X pins σ Q (.str d.shown t) { s with toks := tk } :=
    fun t tk => ⟨.str d.shown, H, I.tok tk, ⟨t, rfl⟩, q⟩
  cases d with
  | none => cases rd; exact PySem.P.repr_of_none (flat _ _)
  | bool b => cases rd; exact PySem.P.repr_of_bool (flat _ _)
  | int i =>
    cases rd
    exact PySem.P.repr_of_int (of_decide_eq_true (by simpa only [PyData.showable] using sh)) (flat _ _)
  | str y => cases rd; exact PySem.P.repr_of_str (flat _ _) sz
  | list ds =>
    cases rd with
    | list a1 a2 a3 a4 => exact repr_of_reads' (.list a1 a2 a3 a4) sh (PyData.noDict_hsm nd) qa (by omega) (fun _ _ z => z) (fun h' t tk k => keep h' t tk k) sz
  | tuple ds =>
    cases rd with
    | tuple a1 a2 a3 a4 => exact repr_of_reads' (.tuple a1 a2 a3 a4) sh (PyData.noDict_hsm nd) qa (by omega) (fun _ _ z => z) (fun h' t tk k => keep h' t tk k) sz
  | dict kv => simp only [PyData.hasDict] at nd; cases nd
/-! ### the end of a law's row, the law's def being quiet -/
/-- the law's call, from a heap in which at most the script is tracked -/
theorem end_core {P : Program} {w : World} {K : PySem.W.Frag} {mg mb : Str → Option Value} {CX : CXT} {k : Nat} {fa a : Addr} {fd : FuncData}
    {x : Str} {sp : Sp} {st : Shared} {vs : List Value} {H : Hp}
    (KX : K.In st.heap) (hn : st.heap.Ns mainGlobals mg) (hb : st.heap.Ns builtinsNs mb)
    (hbb : ∀ y : Str, y ≠ "__name__" → mb y = bootBuiltins y) (hlim : st.heap.NoLimit) (hg : st.gens = #[])
    (ha : st.heap.get? a = some { cls := .type "list", data := .seq vs.toArray }) (rm : Room k callerA)
    (G : ∀ base : Heap, K.In base → base.Ns mainGlobals mg → GOk P w K mg base CX k fa fd [x] sp)
    (hbind : ∀ (s : Shared) (u : Value), BindsTo s fd ⟨[u], []⟩ [(x, u)])
    (hsp : sp [.ref a] H (fun v _ => v = .bl true) fun _ _ _ => False)
    (hCX : ∀ e s', CX [] H st (fun _ _ _ => False) e s' → False)
    (hO : Only H) (hok : HOk P w H st.heap) (hA : ∀ b, H b ≠ none → b = a) (hK : H a ≠ none → K.lookup a = none) :
    codeAny (model P w) callerA (.call (.ref fa) ⟨[.ref a], []⟩)
      (fun r s' => r = .ok (.ret (.bool true)) ∧ OldK st.heap s'.heap ∧ s'.os = st.os ∧ AllBare s'.gens) st := by
  have only : ∀ {b : Addr} {u : HO}, H b = some u → b = a := fun {b u} q => hA b (by rw [q]; exact fun z => nomatch z)
  have under : ∀ {b : Addr} {o : Obj}, st.heap.get? b = some o → H b = none → (hidT st.heap H).get? b = some o :=
    fun z n => hidT_get z n
  have free : ∀ {b : Addr} {o : Obj} {es : Array DictEntry} {ep : Nat}, st.heap.get? b = some o → o.data = .dict es ep → H b = none := by
    intro b o es ep z d
    cases q : H b with
    | none => rfl
    | some u =>
      have z2 := z
      rw [only q, ha] at z2
      have z3 := Option.some.inj z2
      rw [← z3] at d
      exact nomatch d
  have ns' : ∀ {b : Addr} {m : Str → Option Value}, st.heap.Ns b m → (hidT st.heap H).Ns b m := by
    rintro b m ⟨o, es, ep, z, d, r⟩
    exact ⟨o, es, ep, under z (free z d), d, r⟩
  have kin : K.In (hidT st.heap H) := by
    intro b o z
    refine under (KX b o z) ?_
    cases q : H b with
    | none => rfl
    | some u =>
      have e1 := only q
      rw [e1] at z q
      rw [hK (by rw [q]; exact fun z => nomatch z)] at z
      exact nomatch z
  obtain ⟨mc, l1, l2⟩ := hlim
  have md : Mod K mg (hidT st.heap H) := ⟨kin, ns' hn, ⟨mb, ns' hb, hbb⟩, ⟨mc, ns' l1, l2⟩⟩
  have e0 : Env0 P w K mg (hidT st.heap H) callerA [] st H :=
    ⟨rfl, md, fun b o z => of_hidT z, Nat.le_of_eq (hidT_size _ _), trivial, fun b z => absurd (show b ∈ ([] : List Addr) from z) List.not_mem_nil, hok, .of_eq hg⟩
  have c := (G _ kin (ns' hn)).go callerA [] st H ⟨[.ref a], []⟩ [.ref a] [.ref a] _ _ rfl rm e0 (hbind st (.ref a)) (.cons rfl .nil) hsp
  refine codeAny_mono c fun r s' z => ?_
  cases r with
  | error e => exact (hCX e s' z).elim
  | ok fl =>
    cases fl with
    | next => exact False.elim z
    | brk => exact False.elim z
    | cont => exact False.elim z
    | ret u =>
      obtain ⟨v, H2, os, br, un, ok2, rv, q⟩ := z
      have q2 : v = .bl true := q
      rw [q2] at rv
      have rv2 : u = Value.bool true := rv
      rw [rv2]
      refine ⟨rfl, OldK.of_keep fun b o y => ?_, os, br⟩
      cases q3 : H b with
      | none => exact un.keep b o y q3 (fun z => absurd (show b ∈ ([] : List Addr) from z) List.not_mem_nil) List.not_mem_nil
      | some u2 =>
        rcases hO b with z | ⟨ob, ys, z⟩
        · rw [q3] at z
          exact nomatch z
        · obtain ⟨y1, _⟩ := hok b _ z
          obtain ⟨y2, _⟩ := ok2 b _ (un.frzs b ob _ z)
          rw [y] at y1
          rw [Option.some.inj y1]
          exact y2
theorem end_call {P : Program} {w : World} {K : PySem.W.Frag} {mg mb : Str → Option Value} {CX : CXT} {k : Nat} {fa a : Addr} {fd : FuncData}
    {x : Str} {sp : Sp} {st : Shared} {vs : List Value} {ns : List Int}
    (KX : K.In st.heap) (hn : st.heap.Ns mainGlobals mg) (hb : st.heap.Ns builtinsNs mb)
    (hbb : ∀ y : Str, y ≠ "__name__" → mb y = bootBuiltins y) (hlim : st.heap.NoLimit) (hg : st.gens = #[])
    (ha : st.heap.get? a = some { cls := .type "list", data := .seq vs.toArray }) (hi : IntsAre vs ns) (hl : ns.length ≤ sizeLine) (rm : Room k callerA)
    (G : ∀ base : Heap, K.In base → base.Ns mainGlobals mg → GOk P w K mg base CX k fa fd [x] sp)
    (hbind : ∀ (s : Shared) (u : Value), BindsTo s fd ⟨[u], []⟩ [(x, u)])
    (hsp : ∀ H : Hp, Only H → SqL K H a (ns.map V.int) → sp [.ref a] H (fun v _ => v = .bl true) fun _ _ _ => False)
    (hCX : ∀ H e s', CX [] H st (fun _ _ _ => False) e s' → False) :
    codeAny (model P w) callerA (.call (.ref fa) ⟨[.ref a], []⟩)
      (fun r s' => r = .ok (.ret (.bool true)) ∧ OldK st.heap s'.heap ∧ s'.os = st.os ∧ AllBare s'.gens) st := by
  have rv := vals_ints hi
  have ln := hi.length
  cases hk : K.lookup a with
  | some o =>
    have z := KX a o hk
    rw [ha] at z
    have z2 := (Option.some.inj z).symm
    subst z2
    let H0 : Hp := fun _ => none
    have S0 : SqL K H0 a (ns.map V.int) := .inr ⟨_, vs.toArray, _, hk, rfl, rfl, rfl, by rw [List.size_toArray, ln]; exact hl, by simpa using rv⟩
    have O0 : Only H0 := fun _ => .inl rfl
    exact end_core KX hn hb hbb hlim hg ha rm G hbind (hsp H0 O0 S0) (hCX H0) O0 (fun b u z => nomatch (show (none : Option HO) = some u from z))
      (fun b z => absurd rfl z) (fun z => absurd rfl z)
  | none =>
    let fz : HO := .frz { cls := .type "list", data := .seq vs.toArray } (.lst (ns.map V.int))
    let H1 : Hp := fun b => if b = a then some fz else none
    have at_a : H1 a = some fz := if_pos rfl
    have off : ∀ b, b ≠ a → H1 b = none := fun b hb => if_neg hb
    have O1 : Only H1 := by
      intro b
      by_cases e : b = a
      · exact .inr ⟨_, _, by rw [e]; exact at_a⟩
      · exact .inl (off b e)
    have on : ∀ b, H1 b ≠ none → b = a := by
      intro b z
      by_cases e : b = a
      · exact e
      · exact absurd (off b e) z
    refine end_core KX hn hb hbb hlim hg ha rm G hbind (hsp H1 O1 (.inl (.inr ⟨_, at_a⟩))) (hCX H1) O1 (fun b u z => ?_) on fun _ => hk
    have e : b = a := on b (by rw [z]; exact fun z => nomatch z)
    subst e
    rw [at_a] at z
    have z2 := Option.some.inj z
    subst z2
    exact ⟨ha, by rw [List.length_map]; exact hl, vs, _, rv, ha⟩
theorem walk_G {l : PySem.W.OpenLaw} {n k : Nat} {q : Program} {loose : List Str} {XP : (Str → Option Value) → Heap → Prop} {YP : World → Heap → Prop}
    {d : DefRec} {K : Params → PySem.W.Frag} {CX : World → CXT} {sp : World → Sp} {x : Str}
    (hn : l.most = some n) (hn2 : n ≤ sizeLine) (hdf : d.params.defaults = []) (rm : Room k callerA)
    (hY : ∀ (w : World) (h : Heap), YP w h → (K w.params).In h)
    (F : ∀ (w : World) (mg : Str → Option Value) (fa : Addr) (h : Heap), (K w.params).In h → h.Ns mainGlobals mg → mg d.name = some (.ref fa) →
      ∃ fd : FuncData, (∀ (s : Shared) (u : Value), BindsTo s fd ⟨[u], []⟩ [(x, u)]) ∧
        ∀ base : Heap, (K w.params).In base → base.Ns mainGlobals mg → GOk l.prog w (K w.params) mg base (CX w) k fa fd [x] (sp w))
    (hsp : ∀ (w : World) (H : Hp) (a : Addr) (ns : List Int), ns.length ≤ n → (∀ z ∈ ns, Builtin.Int.intBits z ≤ 1048576) → Only H →
      SqL (K w.params) H a (ns.map V.int) → sp w [.ref a] H (fun v _ => v = .bl true) fun _ _ _ => False)
    (hCX : ∀ (w : World) (H : Hp) (s : Shared) (e : Value) (s' : Shared), CX w [] H s (fun _ _ _ => False) e s' → False) :
    PySem.W.WalkO q loose XP YP l.row.toRowW d [] (fun f vs => PySem.call f vs) := by
  refine Att.attach_callB hn hdf ?_
  intro w s0 s1 mg mb fa o pm cd doc a vs ns Gr Y ho hd hcd hmg hobj hints hlen hbits hg
  have KX := hY w _ Y
  obtain ⟨fd, hb, hF⟩ := F w mg fa _ KX Gr.T.g hmg
  exact end_call KX Gr.T.g Gr.T.b Gr.T.builtins Gr.T.nolimit hg hobj hints (Nat.le_trans hlen hn2) rm hF hb
    (fun H hO hS => hsp w H a ns hlen hbits hO hS) (fun H e s' => hCX w H s1 e s')
end Gk
set_option Elab.async false
set_option linter.all false
set_option maxRecDepth 100000
set_option maxHeartbeats 4000000
/-! Exceptions of the program's own classes held as values: made, asked for their class, their fields read. -/
namespace Gk
open PySem PySem.Spec PyProof.Rows L2
/-- the chain behind a class that stands directly under the class at S -/
def XM (S : Addr) : List Value := [.ref S, .type "ValueError", .type "Exception", .type "BaseException", .type "object"]
/-- what stands of every class of errors -/
structure XG (K : PySem.W.Frag) : Prop where
  gt : PySem.W.specialIn K (.builtin "object.__class__") "__get__" = some (some (.builtin "getset_descriptor.__get__"))
  tk : PySem.W.takesIn K (.builtin "object.__class__") = some true
/-- an error class under the class at S -/
structure XC (K : PySem.W.Frag) (S C : Addr) (nm : Str) : Prop where
  row : ∃ q N bs sn sub ab col dd k0 k1 k2 k3 k5, K.lookup C = some (excClassObj nm q C N bs (XM S) true sn sub ab col dd k0 k1 k2 k3 k5 "ValueError.__new__")
  sa : PySem.W.findIn K (.ref C) "__setattr__" = some (some (.builtin "object.__setattr__"))
  ga : PySem.W.findIn K (.ref C) "__getattribute__" = some (some (.builtin "BaseException.__getattribute__"))
  gg : PySem.W.findIn K (.ref C) "__getattr__" = some none
  cl : PySem.W.findIn K (.ref C) "__class__" = some (some (.builtin "object.__class__"))
  kp : PySem.W.keepIn K (.ref C) = true
section
variable {K : PySem.W.Frag} {S C D : Addr} {nm nm' : Str}
theorem XC.cls (x : XC K S C nm) : ∃ cd, PySem.W.clsIn K C = some cd ∧ cd.mro = .ref C :: XM S ∧ cd.hasDict = true := by
  obtain ⟨q, N, bs, sn, sub, ab, col, dd, k0, k1, k2, k3, k5, e⟩ := x.row
  refine ⟨_, by unfold PySem.W.clsIn; rw [e], rfl, rfl⟩
theorem XC.mro (x : XC K S C nm) (b : Value) : PySem.W.mroIn K C b = some ((Value.ref C :: XM S).contains b) := by
  obtain ⟨cd, e, m, _⟩ := x.cls
  unfold PySem.W.mroIn
  rw [e, Option.bind_some, m, if_neg (by intro z; exact nomatch z)]
theorem XC.dct (x : XC K S C nm) : PySem.W.hasDictIn K C = true := by
  obtain ⟨cd, e, _, h⟩ := x.cls
  unfold PySem.W.hasDictIn
  rw [e]
  exact h
theorem XC.typ (x : XC K S C nm) : PySem.W.typeIn K (.ref C) = some (.type "type") := by
  obtain ⟨q, N, bs, sn, sub, ab, col, dd, k0, k1, k2, k3, k5, e⟩ := x.row
  show (K.lookup C).map (·.cls) = _
  rw [e]
  rfl
theorem XC.bex (x : XC K S C nm) : PySem.W.subIn K (.ref C) (.type "BaseException") = some true := x.mro _
theorem XC.obj (x : XC K S C nm) : PySem.W.mroIn K C (.type "object") = some true := x.mro _
theorem refs_XM : PySem.HandSPX.refsVE (XM S) = true := by
  show (([.type "ValueError", .type "Exception", .type "BaseException", .type "object"] : List Value) == PySem.HandSPX.veTail) = true
  decide +kernel
theorem XC.oex (x : XC K S C nm) : OexC K C := by
  obtain ⟨q, N, bs, sn, sub, ab, col, dd, k0, k1, k2, k3, k5, e⟩ := x.row
  exact ⟨⟨nm, q, N, bs, XM S, sn, sub, ab, col, dd, k0, k1, k2, k3, k5, e, refs_XM⟩, x.sa, x.bex, x.typ, x.kp⟩
/-- classes of unlike names stand apart -/
theorem XC.ne (x : XC K S C nm) (y : XC K S D nm') (h : nm ≠ nm') : C ≠ D := by
  rintro rfl
  obtain ⟨q, N, bs, sn, sub, ab, col, dd, k0, k1, k2, k3, k5, e⟩ := x.row
  obtain ⟨q', N', bs', sn', sub', ab', col', dd', l0, l1, l2, l3, l5, e'⟩ := y.row
  rw [e] at e'
  have z := Option.some.inj e'
  injection z with _ _ z2 _
  injection z2 with z3
  injection z3 with z4
  exact h z4
theorem beq_ref (a b : Addr) : (Value.ref a == Value.ref b) = decide (a = b) := by
  by_cases h : a = b
  · subst h
    simp
  · rw [decide_eq_false h]
    exact beq_eq_false_iff_ne.mpr fun e => h (Value.ref.inj e)
theorem XC.kitSame (x : XC K S C nm) : PySem.W.kitOne K (.ref C) (.ref C) = some true := by
  unfold PySem.W.kitOne
  rw [if_pos (by simp)]
theorem XC.kitNe (x : XC K S C nm) (y : XC K S D nm') (h : C ≠ D) (hS : S ≠ D) : PySem.W.kitOne K (.ref C) (.ref D) = some false := by
  obtain ⟨cd, e, _⟩ := y.cls
  have e1 : (Value.ref C == Value.ref D) = false := by rw [beq_ref, decide_eq_false h]
  have e2 : (Value.ref S == Value.ref D) = false := by rw [beq_ref, decide_eq_false hS]
  unfold PySem.W.kitOne
  rw [e1, if_neg Bool.false_ne_true]
  unfold PySem.W.kitCls
  simp only [e, y.typ, Option.isSome_some, Bool.true_and, beq_self_eq_true, if_true]
  show PySem.W.mroIn K C (.ref D) = some false
  rw [x.mro]
  have e1' : (Value.ref D == Value.ref C) = false := by rw [beq_ref, decide_eq_false (Ne.symm h)]
  have e2' : (Value.ref D == Value.ref S) = false := by rw [beq_ref, decide_eq_false (Ne.symm hS)]
  simp only [XM, List.contains_cons, e1', e2', Bool.false_or, List.contains_nil, Bool.or_false]
  rfl
theorem XC.kitTy (x : XC K S C nm) {T : String} {b : Bool} (hm : PySem.W.kitMeta T = true) (h : ([.type "ValueError", .type "Exception", .type "BaseException", .type "object"] : List Value).contains (.type T) = b) :
    PySem.W.kitOne K (.ref C) (.type T) = some b := by
  unfold PySem.W.kitOne
  rw [if_neg (by intro z; cases (beq_iff_eq.mp z))]
  unfold PySem.W.kitCls
  simp only [hm, if_true]
  show PySem.W.mroIn K C (.type T) = some b
  rw [x.mro]
  have e1 : (Value.type T == Value.ref C) = false := beq_eq_false_iff_ne.mpr fun z => nomatch z
  have e2 : (Value.type T == Value.ref S) = false := beq_eq_false_iff_ne.mpr fun z => nomatch z
  rw [← h]
  simp only [XM, List.contains_cons, e1, e2, Bool.false_or]
/-- the class S itself -/
structure XB (K : PySem.W.Frag) (S : Addr) : Prop where
  ic : PySem.W.isClsIn K S = true
  ty : PySem.W.typeIn K (.ref S) = some (.type "type")
  bx : PySem.W.subIn K (.ref S) (.type "BaseException") = some true
theorem XC.kitBase (x : XC K S C nm) (y : XB K S) : PySem.W.kitOne K (.ref C) (.ref S) = some true := by
  unfold PySem.W.kitOne
  by_cases h : (Value.ref C == Value.ref S) = true
  · rw [if_pos h]
  · rw [if_neg h]
    unfold PySem.W.kitCls
    have i : (PySem.W.clsIn K S).isSome = true := y.ic
    simp only [i, y.ty, Bool.true_and, beq_self_eq_true, if_true]
    show PySem.W.mroIn K C (.ref S) = some true
    rw [x.mro]
    simp [XM]
theorem XC.exm (x : XC K S C nm) (y : XB K S) (h : C ≠ S) : PySem.W.exmOne K (.ref C) (.ref S) = some true := by
  have k := x.kitBase y
  unfold PySem.W.kitOne at k
  rw [if_neg (by rw [beq_ref, decide_eq_false h]; exact Bool.false_ne_true)] at k
  unfold PySem.W.exmOne
  rw [if_pos (by rw [y.bx] <;> rfl)]
  exact k
end
/-- an error of the class at C at e, its dict at d | none -/
def XAt (H : Hp) (e C : Addr) (fs : List (Str × V)) : Prop :=
  (fs = [] ∧ H e = some (exo e C none)) ∨ ∃ d, d ≠ e ∧ H e = some (exo e C (some d)) ∧ H d = some (exd d fs)
section
variable {X : Cx} {pins : List (Addr × Obj)} {σ : L2.St} {H : Hp} {st : Shared} {e C S : Addr} {fs : List (Str × V)} {nm : Str}
theorem XAt.keep {H' : Hp} (x : XAt H e C fs) (k : ∀ b o, H b = some o → H' b = some o) : XAt H' e C fs := by
  rcases x with ⟨a, b⟩ | ⟨d, n, a, b⟩
  · exact .inl ⟨a, k _ _ b⟩
  · exact .inr ⟨d, n, k _ _ a, k _ _ b⟩
theorem XAt.inst (x : XAt H e C fs) (I : Inv X pins σ H st) : ∃ ox od, PySem.W.InstAt st.heap e ox C od := by
  rcases x with ⟨_, a⟩ | ⟨d, _, a, b⟩
  · obtain ⟨t, h⟩ := exo_at I.hok a
    exact ⟨_, none, h, rfl, rfl, trivial⟩
  · obtain ⟨t, h⟩ := exo_at I.hok a
    obtain ⟨mA, ⟨o, es, ep, g, _⟩, _⟩ := exd_at I.hok b
    exact ⟨_, some o, h, rfl, rfl, g⟩
/-- isinstance(e, c) -/
def rIsX (K : PySem.W.Frag) (S : Addr) : List V → Hp → VK → Prop := fun xs H Q => ∃ (e C : Addr) (fs : List (Str × V)) (nm : Str) (c : V) (u : Value) (b : Bool),
  xs = [.ref e, c] ∧ ClsV c u ∧ XAt H e C fs ∧ XC K S C nm ∧ PySem.W.kitOne K (.ref C) u = some b ∧ Q (.bl b) H
def rIsXT (K : PySem.W.Frag) (S : Addr) : List V → Hp → VK → Prop := fun xs H Q => ∃ (e C tp : Addr) (fs : List (Str × V)) (nm : Str) (cs : List V) (us : List Value) (b : Bool),
  xs = [.ref e, .ref tp] ∧ H tp = some (.tup cs) ∧ Paired ClsV cs us ∧ XAt H e C fs ∧ XC K S C nm ∧ PySem.W.kitAny K (.ref C) us = some b ∧ Q (.bl b) H
theorem XC.kitx (x : XC X.K S C nm) (g : XG X.K) {ox : Obj} {od : Option Obj} : PySem.W.KitX X.K (.ref e) (.ref C) (fun h => PySem.W.InstAt h e ox C od) := by
  obtain ⟨cd, z, _⟩ := x.cls
  exact PySem.W.kitx_exc (by rw [z]; rfl) x.ga x.gg x.bex x.cl g.gt g.tk x.obj
theorem call_isX (g : XG X.K) : CallR X (.builtin "isinstance") (rIsX X.K S) := by
  intro pins s σ H xs us Q I r h
  obtain ⟨e, C, fs, nm, c, u, b, rfl, hc, hx, x, hk, q⟩ := h
  obtain ⟨u1, u2, rfl, r1, r2⟩ := vals2 r
  cases (show u1 = Value.ref e from r1)
  cases hc.eq r2
  obtain ⟨ox, od, J⟩ := hx.inst I
  exact PySem.W.kia_one (x.kitx g) I.kIn J hk (fun z => nomatch z) fun tk => ⟨.bl b, H, I.tok tk, rfl, q⟩
theorem call_isXT (g : XG X.K) : CallR X (.builtin "isinstance") (rIsXT X.K S) := by
  intro pins s σ H xs us Q I r h
  obtain ⟨e, C, tp, fs, nm, cs, ws, b, rfl, ht, hc, hx, x, hk, q⟩ := h
  obtain ⟨u1, u2, rfl, r1, r2⟩ := vals2 r
  cases (show u1 = Value.ref e from r1)
  cases (show u2 = Value.ref tp from r2)
  obtain ⟨ox, od, J⟩ := hx.inst I
  obtain ⟨_, its, rv, o, h1, h2, n, h3⟩ := (show ObjOk X.prog X.w H s.heap tp (.tup cs) from I.hok tp _ ht)
  cases ClsV.all hc rv
  obtain ⟨oc, odd, dt, sl⟩ := o
  dsimp only at h2 h3
  cases h2
  cases h3
  exact PySem.W.kia_tup (x.kitx g) I.kIn J h1 hk (fun z => nomatch z) fun tk => ⟨.bl b, H, I.tok tk, rfl, q⟩
/-- e.f -/
def tXf (K : PySem.W.Frag) (S : Addr) (f : Str) (te : TE) : TE := fun σ H Q => te σ H fun x H1 => ∃ (e C d : Addr) (fs : List (Str × V)) (nm : Str) (v : V),
  x = .ref e ∧ H1 e = some (exo e C (some d)) ∧ H1 d = some (exd d fs) ∧ XC K S C nm ∧ PySem.W.findIn K (.ref C) f = some none ∧ fs.lookup f = some v ∧ Q v H1
theorem pe_xf {o : Expr} {f : Str} {te : TE} {pos : Pos} (he : PE X o te) (hb : attributeBase o f X.env (eval o X.env) = eval o X.env := by rfl) :
    PE X (.Attribute o f pos) (tXf X.K S f te) := by
  refine ⟨fun pins s σ H Q I h => ?_⟩
  refine attr_of hb (thn (he.run pins s σ H _ I h) fun u s1 z => ?_)
  obtain ⟨y, H1, I1, ry, e, C, d, fs, nm, v, rfl, ea, ed, x, hno, hl, q⟩ := z
  cases (show u = Value.ref e from ry)
  obtain ⟨t1, ho⟩ := exo_at I1.hok ea
  obtain ⟨mA, hns, rel⟩ := exd_at I1.hok ed
  obtain ⟨od, hod, hlook⟩ := lookIn_ns hns
  have J : PySem.W.InstAt s1.heap e _ C (some od) := ⟨ho, rfl, rfl, hod⟩
  have rr := rel f
  rw [hl] at rr
  obtain ⟨w, hw, rw'⟩ := RelO.some_of rr
  exact HandSPX.exc_get I1.kIn J x.ga x.gg x.bex (PySem.W.findObj_own x.dct hno rfl (by rw [hlook, hw])) (handed_of rw') ⟨v, H1, I1.tok _, rw', q⟩
end
end Gk
set_option Elab.async false
set_option linter.all false
set_option maxRecDepth 100000
set_option maxHeartbeats 4000000
namespace Gk
open PySem PySem.Spec PyProof.Rows L2
/-- C(e, ..) as a value, C an error class with an __init__ of its own that keeps sp -/
def tMkV (C : Addr) (sp : Sp) (dvs : List V) (ta : TA) : TE := fun σ H Q => ta σ H fun vs H1 => vs.length ≤ 1000 ∧
  ∀ a, H1 a = none → sp (.ref a :: (vs ++ dvs)) (upd H1 a (exo a C none)) (fun v H2 => v = .non ∧ Q (.ref a) H2) fun _ _ _ => False
section
variable {X : Cx} {CX : CXT} {k : Nat} {C fI : Addr} {fd : FuncData} {ps : List Str} {sp : Sp} {dvs : List V} {ds : List Value}
theorem run_mkx {pins : List (Addr × Obj)} {σ : L2.St} {H : Hp} {st : Shared} {Q : VK} {us : List Value} {vs : List V} (T : OexC X.K C)
    (iC : PySem.W.findIn X.K (.ref C) "__init__" = some (some (.ref fI))) (tI : PySem.W.typeIn X.K (.ref fI) = some (.type "function"))
    (F : FnOk X.prog X.w X.K X.mg X.base CX k fI fd ps sp) (rm : Room (k + 1) X.A) (hb : Binds X.K fd ps ds) (hd : Vals dvs ds)
    (hx : Passes CX X fun _ _ _ => False) (I : Inv X pins σ H st) (r : Vals vs us) (hz : vs.length ≤ 1000)
    (h : ∀ a, H a = none → sp (.ref a :: (vs ++ dvs)) (upd H a (exo a C none)) (fun v H2 => v = .non ∧ Q (.ref a) H2) fun _ _ _ => False) :
    wpAny (model X.prog X.w) X.A (call (.ref C) us) (EP X pins σ Q) X.xe st := by
  obtain ⟨nm, q, N, bs, bm, sn, sub, ab, col, dd, k0, k1, k2, k3, k5, hC, hbm⟩ := T.cls
  obtain ⟨hp, g, dr, tk, os⟩ := st
  have up : hp.objs.size ≤ hp.objs.size + 1 := Nat.le_succ _
  have old : ∀ b o, hp.get? b = some o → ((hp.push (PySem.W.kdv_tup us)).push (PySem.HandSPX.excO C hp.objs.size)).get? b = some o :=
    fun b o z => Heap.get?_push_of_some _ (Heap.get?_push_of_some _ z)
  have new : ((hp.push (PySem.W.kdv_tup us)).push (PySem.HandSPX.excO C hp.objs.size)).get? (hp.objs.size + 1) = some (PySem.HandSPX.excO C hp.objs.size) := by heap_get
  have J : Inv X pins σ (upd H (hp.objs.size + 1) (exo (hp.objs.size + 1) C none)) ⟨(hp.push (PySem.W.kdv_tup us)).push (PySem.HandSPX.excO C hp.objs.size), g, dr, tk, os⟩ :=
    I.laid (t' := tk) old up (exo_ok new)
  have hq := h (hp.objs.size + 1) (I.hok.fresh up)
  have rr : Vals (V.ref (hp.objs.size + 1) :: (vs ++ dvs)) (Value.ref (hp.objs.size + 1) :: (us ++ ds)) := .cons rfl (Vals.append r hd)
  have el : (Value.ref (hp.objs.size + 1) :: us ++ ds).length = ps.length := (Vals.length rr).symm.trans (F.len _ _ _ _ hq)
  have sz : us.length ≤ sizeLine := by
    have z := Vals.length r
    rw [sizeLine_eq]
    omega
  have run := F.run _ X.stack _ _ ⟨Value.ref (hp.objs.size + 1) :: us, []⟩ (Value.ref (hp.objs.size + 1) :: (us ++ ds)) _ _ (fun _ _ _ => False) (rm.make C us []) (J.env0.make C us [])
    (hb _ (Value.ref (hp.objs.size + 1) :: us) J.kIn el) rr hq
  refine wpAny_call (PySem.HandSPX.call_own PySem.F.excBase_ValueError (fun Y => PySem.HandSPX.refsVE_contains Y bm hbm) (I.kIn _ _ hC) (PySem.W.looks_findIn I.kIn iC)
    (fun self => PySem.W.bind_fn I.kIn self tI) sz (codeAny_mono run fun res s2 z => ?_))
  cases res with
  | error er => exact hx pins σ _ _ er s2 J z
  | ok fl =>
    cases fl with
    | ret u =>
      obtain ⟨v, H2, J2, rv, ev, q2⟩ := J.after z
      subst ev
      exact ⟨rv, V.ref (hp.objs.size + 1), H2, J2, rfl, q2⟩
    | next => exact False.elim z
    | brk => exact False.elim z
    | cont => exact False.elim z
theorem pe_mkx {x : Str} {p pos : Pos} {e : Expr} {es : List Expr} {ta : TA} (T : OexC X.K C)
    (iC : PySem.W.findIn X.K (.ref C) "__init__" = some (some (.ref fI))) (tI : PySem.W.typeIn X.K (.ref fI) = some (.type "function"))
    (F : FnOk X.prog X.w X.K X.mg X.base CX k fI fd ps sp) (rm : Room (k + 1) X.A) (hb : Binds X.K fd ps ds) (hd : Vals dvs ds)
    (hx : Passes CX X fun _ _ _ => False) (hg : Gl X x) (hm : X.mg x = some (.ref C)) (ha : PA X (e :: es) ta)
    (hdb : (x == ("__debug__" : Str)) = false := by decide) (he : starEach (e :: es) X.env = (false, eval e X.env) :: starEach es X.env := by rfl)
    (hpl : (backTo pos (starEach es X.env)).any (·.1) = false := by rfl) :
    PE X (.Call (.Name x p) (e :: es) [] pos) (tMkV C sp dvs ta) := by
  constructor
  intro pins s σ H Q I h
  refine wpAny_Call_Name_kw (ld_glob I hg hm ?_ hdb)
  refine PySem.W.callWith_K (h₀ := X.base) I.ok.mod.kin T.kC ?_ he hpl
  refine thn (ha.run pos pins s σ H _ I h) fun us s1 z => ?_
  obtain ⟨vs, H1, I1, r, hz, q⟩ := z
  exact ⟨I1.kIn, run_mkx T iC tI F rm hb hd hx I1 r hz q⟩
end
end Gk
set_option Elab.async false
set_option linter.all false
set_option maxRecDepth 100000
set_option maxHeartbeats 4000000
namespace PySem
namespace KwMake
open PySem.W PySem.Calls PyProof.Rows PySem.HandSPX
section
variable {prog : Program} {w : World} {M : Model} {A : Around} {E : Value → Shared → Prop} {R : Result → Shared → Prop} {h : Heap} {g : Array GenState} {d : Drawn} {t : Nat} {os : OsState}
variable {nm q : Str} {C N : Addr} {bs bm bmB : List Value} {hdct : Bool} {sn : List Str} {sub : List Value} {ab : Bool} {col : Option Bool} {dd : Option Addr} {k0 k1 k2 k3 k5 : Option Value} {B newId initId : String}
theorem new_check (F : ExcBaseFacts B newId initId bmB) (hT : ∀ X : String, bm.contains (.type X) = bmB.contains (.type X)) {rest : List Value} {kw : List (Str × Value)} {Q : Unit → Shared → Prop}
    (hC : h.get? C = some (excClassObj nm q C N bs bm hdct sn sub ab col dd k0 k1 k2 k3 k5 newId))
    (hq : Q () ⟨h, g, d, t, os⟩) : wpAny M A (checkBuiltinCall newId ⟨.ref C :: rest, kw⟩) Q E ⟨h, g, d, t, os⟩ := by
  have ct : (Value.ref C :: bm).contains (.type B) = true := by rw [List.contains_cons, hT, F.hasB, Bool.or_true]
  have ns := F.noStar
  simp only [checkBuiltinCall, F.newKind, F.newSplit, F.newRow]
  repeat (first
    | refine wpAny_loadPart_at hC ?_
    | (refine wpAny_isSubtype_exc hC ?_; rw [ct])
    | refine wpAny_staticBase_exc hC ?_
    | refine wpAny_madeBy_exc hC ?_
    | simp only [bne_self_eq_false, Bool.false_eq_true, if_false]
    | wp_step)
  exact hq
theorem new_go (F : ExcBaseFacts B newId initId bmB) (hT : ∀ X : String, bm.contains (.type X) = bmB.contains (.type X)) {rest : List Value} {kw : List (Str × Value)}
    (hC : h.get? C = some (excClassObj nm q C N bs bm hdct sn sub ab col dd k0 k1 k2 k3 k5 newId))
    (hq : R (.ok (.ret (.ref (h.objs.size + 1)))) ⟨(h.push (PySem.W.kdv_tup rest)).push (excO C h.objs.size), g, d, t, os⟩) (hz : rest.length ≤ sizeLine) :
    codeAny (model prog w) A (.builtin newId ⟨.ref C :: rest, kw⟩) R ⟨h, g, d, t, os⟩ := by
  have en := F.ends
  have cB : (Value.ref C :: bm).contains (.type B) = true := by rw [List.contains_cons, hT, F.hasB, Bool.or_true]
  have cA : (Value.ref C :: bm).contains (.type "AttributeError") = false := by rw [List.contains_cons, hT, F.noAttr]; rfl
  have cN : (Value.ref C :: bm).contains (.type "NameError") = false := by rw [List.contains_cons, hT, F.noName]; rfl
  refine codeAny_builtinAt F.entry ?_
  unfold Builtin.«BaseException.__new__»
  refine wpAt_bind ?_
  show wpAt _ _ _ (stack >>= _) _ _ _
  refine wpAt_bind (wpAt_stack fun p below => wpAt_of_wpAny ?_)
  wp_walk
  refine wpAt_of_wpAny ?_
  rw [F.owner]
  repeat (first
    | with_reducible refine wpAny_madeHere_exc F.canon hC ?_
    | with_reducible refine wpAny_loadPart_at hC ?_
    | (with_reducible refine wpAny_isSubtype_exc hC ?_; first | rw [cB] | rw [cA] | rw [cN])
    | wp_step)
  show R _ _
  rw [Heap.size_push]
  exact hq
theorem type_go (F : ExcBaseFacts B newId initId bmB) (hT : ∀ X : String, bm.contains (.type X) = bmB.contains (.type X)) {rest : List Value} {kw : List (Str × Value)} {fI : Addr} {Q : Fin → Shared → Prop}
    (hC : h.get? C = some (excClassObj nm q C N bs bm hdct sn sub ab col dd k0 k1 k2 k3 k5 newId))
    (hi : W.Looks (model prog w) h (typeLookup (.ref C) "__init__") (some (.ref fI)))
    (hb : ∀ self, W.Looks (model prog w) h (bindSpecial (.ref fI) self) (.ref fI, [self])) (hz : rest.length ≤ sizeLine)
    (hq : codeAny (model prog w) A (.call (.ref fI) ⟨.ref (h.objs.size + 1) :: rest, kw⟩)
      (fun r s' => match r with | .ok (.ret v) => v = .none ∧ Q (.done (.ret (.ref (h.objs.size + 1)))) s' | .ok _ => False | .error e => E e s')
      ⟨(h.push (W.kdv_tup rest)).push (excO C h.objs.size), g, d, t, os⟩) :
    wpAny (model prog w) A (Builtin.«type.__call__» ⟨.ref C :: rest, kw⟩) Q E ⟨h, g, d, t, os⟩ := by
  repeat (first
    | with_reducible refine wpAny_loadPart_at hC ?_
    | with_reducible refine wpAny_madeBy_exc hC ?_
    | wp_step)
  refine codeAny_call_builtin_code (Code.quiet_builtin _ F.quiet) (new_check F hT hC ?_)
  refine new_go F hT hC ?_ hz
  show wpAny _ _ _ _ _ _
  have old : ∀ b o, h.get? b = some o → ((h.push (W.kdv_tup rest)).push (excO C h.objs.size)).get? b = some o :=
    fun b o z => Heap.get?_push_of_some _ (Heap.get?_push_of_some _ z)
  have hC1 := old _ _ hC
  have at1 : ((h.push (W.kdv_tup rest)).push (excO C h.objs.size)).get? (h.objs.size + 1) = some (excO C h.objs.size) := by heap_get
  have cC : (Value.ref C :: bm).contains (.ref C) = true := by simp
  have i1 := hi.keeps old
  have b1 := (hb (.ref (h.objs.size + 1))).keeps old
  unfold isInstance
  repeat (first
    | with_reducible refine wpAny_loadPart_at at1 ?_
    | (with_reducible refine wpAny_isSubtype_exc hC1 ?_; rw [cC])
    | wp_step)
  show wpAny _ _ (typeLookup (.ref C) _) _ _ _
  refine i1.at ?_
  refine wpAny_holding (wpAny_bind (b1.at ?_))
  refine wpAny_bind (wpAny_call (codeAny_mono hq fun r s2 z => ?_))
  rcases r with er | (v | _ | _ | _) <;> first | exact z | exact z.elim | skip
  obtain ⟨e0, z⟩ := z
  subst e0
  first
    | exact wpAny_pure (wpAny_pure z)
    | (wp_walk; exact z)
theorem type_check {rest : List Value} {kw : List (Str × Value)} {Q : Unit → Shared → Prop} (hC : h.get? C = some (excClassObj nm q C N bs bm hdct sn sub ab col dd k0 k1 k2 k3 k5 newId))
    (hq : Q () ⟨h, g, d, t, os⟩) : wpAny M A (checkBuiltinCall "type.__call__" ⟨.ref C :: rest, kw⟩) Q E ⟨h, g, d, t, os⟩ := by
  have f3 := tc_sub
  have ty : (⟨h, g, d, t, os⟩ : Shared).TypeIs (.ref C) "type" := ⟨_, hC, rfl⟩
  simp only [checkBuiltinCall, tc_kind, tc_split]
  repeat (any_goals (first
    | assumption
    | with_reducible refine wpAny_loadPart_at hC ?_
    | with_reducible refine wpAny_onRaise ?_
    | with_reducible refine wpAny_map ?_
    | wp_step))
theorem call_go (F : ExcBaseFacts B newId initId bmB) (hT : ∀ X : String, bm.contains (.type X) = bmB.contains (.type X)) {rest : List Value} {kw : List (Str × Value)} {fI : Addr}
    (hC : h.get? C = some (excClassObj nm q C N bs bm hdct sn sub ab col dd k0 k1 k2 k3 k5 newId))
    (hi : W.Looks (model prog w) h (typeLookup (.ref C) "__init__") (some (.ref fI)))
    (hb : ∀ self, W.Looks (model prog w) h (bindSpecial (.ref fI) self) (.ref fI, [self])) (hz : rest.length ≤ sizeLine)
    (hq : codeAny (model prog w) (A.under (.builtin "type.__call__" ⟨.ref C :: rest, kw⟩)) (.call (.ref fI) ⟨.ref (h.objs.size + 1) :: rest, kw⟩) (W.InitBack (h.objs.size + 1) R)
      ⟨(h.push (W.kdv_tup rest)).push (excO C h.objs.size), g, d, t, os⟩) :
    codeAny (model prog w) A (.call (.ref C) ⟨rest, kw⟩) R ⟨h, g, d, t, os⟩ := by
  have f1 := tc_lookup
  have f2 := tc_bind (.ref C)
  have ty : (⟨h, g, d, t, os⟩ : Shared).TypeIs (.ref C) "type" := ⟨_, hC, rfl⟩
  refine codeAny_of_tree ?_
  show wpAny _ _ (callAny (.ref C) _) _ _ _
  repeat (any_goals (first
    | assumption
    | with_reducible refine wpAny_loadPart_at hC ?_
    | wp_step))
  refine ⟨rfl, ?_⟩
  refine codeAny_call_builtin_at (Code.quiet_builtin _ (by decide +kernel)) entry_typeCall (type_check hC (type_go F hT hC hi hb hz ?_))
  refine codeAny_mono hq fun r s2 z => ?_
  rcases r with er | (v | _ | _ | _) <;> exact z
end
end KwMake
end PySem
set_option Elab.async false
set_option linter.all false
set_option maxRecDepth 100000
set_option maxHeartbeats 4000000
namespace Gk
open PySem PySem.Spec PyProof.Rows L2
/-- C(k = v, ..) as a value: g sets the values by the keywords behind the new object into the parameters' order -/
def tMkK (C : Addr) (sp : Sp) (gV : List V → List V) (m : Nat) (tk : TA) : TE := fun σ H Q => tk σ H fun zs H1 => zs.length = m ∧
  ∀ a, H1 a = none → sp (.ref a :: gV zs) (upd H1 a (exo a C none)) (fun v H2 => v = .non ∧ Q (.ref a) H2) fun _ _ _ => False
/-- how keywords alone are bound behind self -/
structure KB (fd : FuncData) (ps ks : List Str) (g : List Value → List Value) (gV : List V → List V) : Prop where
  to : ∀ (s : Shared) (u : Value) (ws : List Value), ws.length = ks.length → BindsTo s fd ⟨[u], ks.zip ws⟩ (ps.zip (u :: g ws))
  rel : ∀ {zs : List V} {ws : List Value}, Vals zs ws → Vals (gV zs) (g ws)
section
variable {X : Cx} {CX : CXT} {k : Nat} {C fI : Addr} {fd : FuncData} {ps ks : List Str} {sp : Sp} {g : List Value → List Value} {gV : List V → List V}
theorem run_mkk {pins : List (Addr × Obj)} {σ : L2.St} {H : Hp} {st : Shared} {Q : VK} {ws : List Value} {zs : List V} (T : OexC X.K C)
    (iC : PySem.W.findIn X.K (.ref C) "__init__" = some (some (.ref fI))) (tI : PySem.W.typeIn X.K (.ref fI) = some (.type "function"))
    (F : FnOk X.prog X.w X.K X.mg X.base CX k fI fd ps sp) (rm : Room (k + 1) X.A) (hb : KB fd ps ks g gV)
    (hx : Passes CX X fun _ _ _ => False) (I : Inv X pins σ H st) (r : Vals zs ws) (hz : zs.length = ks.length)
    (h : ∀ a, H a = none → sp (.ref a :: gV zs) (upd H a (exo a C none)) (fun v H2 => v = .non ∧ Q (.ref a) H2) fun _ _ _ => False) :
    wpAny (model X.prog X.w) X.A (call (.ref C) [] (ks.zip ws)) (EP X pins σ Q) X.xe st := by
  obtain ⟨nm, q, N, bs, bm, sn, sub, ab, col, dd, k0, k1, k2, k3, k5, hC, hbm⟩ := T.cls
  obtain ⟨hp, g0, dr, tk, os⟩ := st
  have up : hp.objs.size ≤ hp.objs.size + 1 := Nat.le_succ _
  have old : ∀ b o, hp.get? b = some o → ((hp.push (PySem.W.kdv_tup [])).push (PySem.HandSPX.excO C hp.objs.size)).get? b = some o :=
    fun b o z => Heap.get?_push_of_some _ (Heap.get?_push_of_some _ z)
  have new : ((hp.push (PySem.W.kdv_tup [])).push (PySem.HandSPX.excO C hp.objs.size)).get? (hp.objs.size + 1) = some (PySem.HandSPX.excO C hp.objs.size) := by heap_get
  have J : Inv X pins σ (upd H (hp.objs.size + 1) (exo (hp.objs.size + 1) C none)) ⟨(hp.push (PySem.W.kdv_tup [])).push (PySem.HandSPX.excO C hp.objs.size), g0, dr, tk, os⟩ :=
    I.laid (t' := tk) old up (exo_ok new)
  have hq := h (hp.objs.size + 1) (I.hok.fresh up)
  have rr : Vals (V.ref (hp.objs.size + 1) :: gV zs) (Value.ref (hp.objs.size + 1) :: g ws) := .cons rfl (hb.rel r)
  have run := F.run _ X.stack _ _ ⟨[Value.ref (hp.objs.size + 1)], ks.zip ws⟩ (Value.ref (hp.objs.size + 1) :: g ws) _ _ (fun _ _ _ => False)
    (rm.make C [] (ks.zip ws)) (J.env0.make C [] (ks.zip ws)) (hb.to _ _ ws ((Vals.length r).symm.trans hz)) rr hq
  refine wpAny_call (PySem.KwMake.call_go PySem.F.excBase_ValueError (fun Y => PySem.HandSPX.refsVE_contains Y bm hbm) (I.kIn _ _ hC) (PySem.W.looks_findIn I.kIn iC)
    (fun self => PySem.W.bind_fn I.kIn self tI) (Nat.zero_le _) (codeAny_mono run fun res s2 z => ?_))
  cases res with
  | error er => exact hx pins σ _ _ er s2 J z
  | ok fl =>
    cases fl with
    | ret u =>
      obtain ⟨v, H2, J2, rv, ev, q2⟩ := J.after z
      subst ev
      exact ⟨rv, V.ref (hp.objs.size + 1), H2, J2, rfl, q2⟩
    | next => exact False.elim z
    | brk => exact False.elim z
    | cont => exact False.elim z
theorem pe_mkk {x : Str} {p pos : Pos} {kws : List Keyword} {tk : TA} (T : OexC X.K C)
    (iC : PySem.W.findIn X.K (.ref C) "__init__" = some (some (.ref fI))) (tI : PySem.W.typeIn X.K (.ref fI) = some (.type "function"))
    (F : FnOk X.prog X.w X.K X.mg X.base CX k fI fd ps sp) (rm : Room (k + 1) X.A) (hb : KB fd ps ks g gV)
    (hx : Passes CX X fun _ _ _ => False) (hg : Gl X x) (hm : X.mg x = some (.ref C)) (hkw : PK X kws tk)
    (hall : (backToKw pos (keywordEach kws X.env)).all (·.1.isSome) = true := by rfl)
    (hks : (backToKw pos (keywordEach kws X.env)).filterMap (·.1) = ks := by rfl)
    (hdb : (x == ("__debug__" : Str)) = false := by decide)
    (hpl : ((backTo pos (starEach [] X.env)).any (·.1) || (backToKw pos (keywordEach kws X.env)).any (·.1.isNone)) = false := by rfl) :
    PE X (.Call (.Name x p) [] kws pos) (tMkK C sp gV ks.length tk) := by
  constructor
  intro pins s σ H Q I h
  refine wpAny_Call_Name_kw (ld_glob I hg hm ?_ hdb)
  refine PySem.W.callWith_KW0 (h₀ := X.base) I.ok.mod.kin T.kC hall ?_ hpl
  refine thn (hkw.run pos pins s σ H _ I h) fun us s1 z => ?_
  obtain ⟨vs, H1, I1, r, hz, q⟩ := z
  refine ⟨I1.kIn, ?_⟩
  rw [hks]
  exact run_mkk T iC tI F rm hb hx I1 r hz q
/-- C(): an error class without an __init__ of its own -/
theorem pe_mk0 {x : Str} {p pos : Pos} {bmB : List Value} {B newId initId : String} (F : ExcBaseFacts B newId initId bmB) (T : OexC X.K C)
    (q : PySem.W.excIn X.K C bmB newId = true) (hg : Gl X x) (hm : X.mg x = some (.ref C)) (hdb : (x == ("__debug__" : Str)) = false := by decide) :
    PE X (.Call (.Name x p) [] [] pos) (fun σ H Q => ∀ a, H a = none → Q (.ref a) (upd H a (exo a C none))) := by
  constructor
  intro pins s σ H Q I h
  refine wpAny_Call_Name_kw (ld_glob I hg hm ?_ hdb)
  refine PySem.W.callWith_K0 I.kIn T.kC ?_
  show wpAny _ _ (call (.ref C) []) _ _ _
  obtain ⟨bm, N, nm, qn, bs, hdct, sn, sub, ab, col, dd, k0, k1, k2, k3, k5, mN, hC, hN, hni, TT⟩ := exc_obj I.kIn q
  refine wpAny_call_exc_subT F TT hC hN hni (fun h' a hm => ?_) (Nat.zero_le _)
  have hn : H a = none := I.hok.gone hm.new
  obtain ⟨t, ht, _, _⟩ := hm.there
  exact ⟨.ref a, upd H a (exo a C none), I.laidN hm.keeps hm.new hn (exo_ok ht), rfl, h a hn⟩
end
end Gk
set_option Elab.async false
set_option linter.all false
set_option maxRecDepth 100000
set_option maxHeartbeats 4000000
namespace Gk
open PySem PySem.Spec PyProof.Rows L2
/-- self.f = v behind the making of an error of the class at C -/
def spI1 (K : PySem.W.Frag) (C : Addr) (f : Str) : Sp := fun vs H Q _ => ∃ (a : Addr) (v : V), vs = [.ref a, v] ∧ H a = some (exo a C none) ∧
  ∀ d, H d = none → d ≠ a → Q .non (upd (upd H d (exd d [(f, v)])) a (exo a C (some d)))
def spI2 (K : PySem.W.Frag) (C : Addr) (f g : Str) : Sp := fun vs H Q _ => ∃ (a : Addr) (v u : V), vs = [.ref a, v, u] ∧ H a = some (exo a C none) ∧
  ∀ d, H d = none → d ≠ a → Q .non (upd (upd (upd H d (exd d [(f, v)])) a (exo a C (some d))) d (exd d [(g, u), (f, v)]))
section
variable {P : Program} {w : World} {K : PySem.W.Frag} {mg : Str → Option Value} {base : Heap} {S C fI : Addr} {fd : FuncData} {nm ql f g : Str} {stm : Stmt}
theorem ok_init1 (F : Fun K "__init__" ql stm fI fd) (x : XC K S C nm) (no : PySem.W.findIn K (.ref C) f = some none)
    (hb : ∃ p1 p2 p3 p4, defBody stm = [.Assign [.Attribute (.Name "self" p1) f p2] (.Name f p3) p4]) (sc : FnScope ["self", f] ["self", f] (defScope stm))
    (h1 : (f == ("__debug__" : Str)) = false) (h2 : (f == ("__classdict__" : Str)) = false) : FnOk P w K mg base CX0 1 fI fd ["self", f] (spI1 K C f) := by
  refine F.ok sc (fun vs H Q E h => ?_) (fun cdv A outer s H vs Q E hr h => ?_)
  · obtain ⟨a, v, rfl, _⟩ := h
    rfl
  · obtain ⟨a, v, rfl, ha, q⟩ := h
    obtain ⟨p1, p2, p3, p4, eb⟩ := hb
    rw [eb]
    have vis : ∀ y ∈ (["self", f] : List Str), Vis (defScope stm) y := fun y hy => by
      rcases sc.par y hy with z | z
      · exact .inl z
      · exact .inr (.inl z)
    refine ⟨_, pss_one (ps_ost (pv 0 rfl (vis _ (by simp))) (pv 1 rfl (vis _ (by simp)) h1 h2)), ?_⟩
    exact ⟨v, rfl, .ref a, rfl, a, C, rfl, x.oex, no, .inl ⟨ha, fun d hd hne => q d hd hne⟩⟩
theorem ok_init2 (F : Fun K "__init__" ql stm fI fd) (x : XC K S C nm) (no : PySem.W.findIn K (.ref C) f = some none) (no2 : PySem.W.findIn K (.ref C) g = some none)
    (hb : ∃ p1 p2 p3 p4 q1 q2 q3 q4, defBody stm = [.Assign [.Attribute (.Name "self" p1) f p2] (.Name f p3) p4, .Assign [.Attribute (.Name "self" q1) g q2] (.Name g q3) q4])
    (sc : FnScope ["self", f, g] ["self", f, g] (defScope stm))
    (h1 : (f == ("__debug__" : Str)) = false) (h2 : (f == ("__classdict__" : Str)) = false) (k1 : (g == ("__debug__" : Str)) = false) (k2 : (g == ("__classdict__" : Str)) = false) :
    FnOk P w K mg base CX0 1 fI fd ["self", f, g] (spI2 K C f g) := by
  refine F.ok sc (fun vs H Q E h => ?_) (fun cdv A outer s H vs Q E hr h => ?_)
  · obtain ⟨a, v, u, rfl, _⟩ := h
    rfl
  · obtain ⟨a, v, u, rfl, ha, q⟩ := h
    obtain ⟨p1, p2, p3, p4, q1, q2, q3, q4, eb⟩ := hb
    rw [eb]
    have vis : ∀ y ∈ (["self", f, g] : List Str), Vis (defScope stm) y := fun y hy => by
      rcases sc.par y hy with z | z
      · exact .inl z
      · exact .inr (.inl z)
    refine ⟨_, pss_cons (ps_ost (pv 0 rfl (vis _ (by simp))) (pv 1 rfl (vis _ (by simp)) h1 h2)) (pss_one (ps_ost (pv 0 rfl (vis _ (by simp))) (pv 2 rfl (vis _ (by simp)) k1 k2))), ?_⟩
    refine ⟨v, rfl, .ref a, rfl, a, C, rfl, x.oex, no, .inl ⟨ha, fun d hd hne => ?_⟩⟩
    refine ⟨u, rfl, .ref a, rfl, a, C, rfl, x.oex, no2, .inr ⟨d, [(f, v)], upd_same, ?_, (by show 1 ≤ 900; decide), q d hd hne⟩⟩
    rw [upd_ne hne, upd_same]
end
/-- an error class of the text with one field | two fields | none -/
structure E1 (K : PySem.W.Frag) (mg : Str → Option Value) (S C : Addr) (nm f : Str) : Prop where
  xc : XC K S C nm
  gm : mg nm = some (.ref C)
  no : PySem.W.findIn K (.ref C) f = some none
  fi : ∃ (fI : Addr) (fd : FuncData), PySem.W.findIn K (.ref C) "__init__" = some (some (.ref fI)) ∧ PySem.W.typeIn K (.ref fI) = some (.type "function") ∧
    Binds K fd ["self", f] [] ∧ ∀ (P : Program) (w : World) (base : Heap), FnOk P w K mg base CX0 1 fI fd ["self", f] (spI1 K C f)
structure E2 (K : PySem.W.Frag) (mg : Str → Option Value) (S C : Addr) (nm f g : Str) : Prop where
  xc : XC K S C nm
  gm : mg nm = some (.ref C)
  no : PySem.W.findIn K (.ref C) f = some none
  no2 : PySem.W.findIn K (.ref C) g = some none
  fi : ∃ (fI : Addr) (fd : FuncData), PySem.W.findIn K (.ref C) "__init__" = some (some (.ref fI)) ∧ PySem.W.typeIn K (.ref fI) = some (.type "function") ∧
    Binds K fd ["self", f, g] [] ∧ KB fd ["self", f, g] [g, f] List.reverse List.reverse ∧
    ∀ (P : Program) (w : World) (base : Heap), FnOk P w K mg base CX0 1 fI fd ["self", f, g] (spI2 K C f g)
structure E0 (K : PySem.W.Frag) (mg : Str → Option Value) (S C : Addr) (nm : Str) : Prop where
  xc : XC K S C nm
  gm : mg nm = some (.ref C)
  ex : PySem.W.excIn K C [.type "ValueError", .type "Exception", .type "BaseException", .type "object"] "ValueError.__new__" = true
/-- a new error -/
def newX (C : Addr) (fs : List (Str × V)) (H : Hp) (Q : VK) : Prop := ∀ a H2, H a = none → Same H H2 → XAt H2 a C fs → Q (.ref a) H2
def tX1 (C : Addr) (f : Str) (ta : TA) : TE := fun σ H Q => ta σ H fun vs H1 => ∃ v, vs = [v] ∧ newX C [(f, v)] H1 Q
def tX2 (C : Addr) (f g : Str) (ta : TA) : TE := fun σ H Q => ta σ H fun vs H1 => ∃ v u, vs = [v, u] ∧ newX C [(g, u), (f, v)] H1 Q
def tX2k (C : Addr) (f g : Str) (tk : TA) : TE := fun σ H Q => tk σ H fun zs H1 => ∃ v u, zs = [u, v] ∧ newX C [(g, u), (f, v)] H1 Q
def tX0 (C : Addr) : TE := fun σ H Q => newX C [] H Q
theorem same_upd' {H : Hp} {p : Addr} {o : HO} (h : H p = none) : Same H (upd H p o) := fun b z e => by
  rw [upd_ne (ne_of_none e h)]
  exact e
theorem pe_imp {X : Cx} {e : Expr} {t t' : TE} (h : PE X e t) (k : ∀ σ H Q, t' σ H Q → t σ H Q) : PE X e t' :=
  ⟨fun pins s σ H Q I z => h.run pins s σ H Q I (k σ H Q z)⟩
section
variable {X : Cx} {S C : Addr} {nm f g : Str} {e e2 : Expr} {p pos : Pos} {kws : List Keyword} {ta tk : TA}
theorem upd_comm {H : Hp} {a d : Addr} {o u v : HO} (h : d ≠ a) : upd (upd (upd H a o) d u) a v = upd (upd H d u) a v := by
  funext b
  by_cases e : b = a
  · rw [e, upd_same, upd_same]
  · rw [upd_ne e, upd_ne e]
    by_cases e2 : b = d
    · rw [e2, upd_same, upd_same]
    · rw [upd_ne e2, upd_ne e2, upd_ne e]
theorem Same.new2 {H : Hp} {a d : Addr} {o u : HO} (ha : H a = none) (hd : H d = none) : Same H (upd (upd H d u) a o) := fun b z e => by
  rw [upd_ne (ne_of_none e ha), upd_ne (ne_of_none e hd)]
  exact e
theorem newX.mk1 {H : Hp} {Q : VK} {v : V} (h : newX C [(f, v)] H Q) : ∀ a, H a = none → spI1 X.K C f [.ref a, v] (upd H a (exo a C none)) (fun r H2 => r = .non ∧ Q (.ref a) H2) fun _ _ _ => False := fun a ha => by
  refine ⟨a, v, rfl, upd_same, fun d hd hne => ⟨rfl, ?_⟩⟩
  have hd' : H d = none := by rw [upd_ne hne] at hd; exact hd
  rw [upd_comm hne]
  exact h a _ ha (Same.new2 ha hd') (.inr ⟨d, hne, upd_same, by rw [upd_ne hne, upd_same]⟩)
theorem newX.mk2 {H : Hp} {Q : VK} {v u : V} (h : newX C [(g, u), (f, v)] H Q) : ∀ a, H a = none → spI2 X.K C f g [.ref a, v, u] (upd H a (exo a C none)) (fun r H2 => r = .non ∧ Q (.ref a) H2) fun _ _ _ => False := fun a ha => by
  refine ⟨a, v, u, rfl, upd_same, fun d hd hne => ⟨rfl, ?_⟩⟩
  have hd' : H d = none := by rw [upd_ne hne] at hd; exact hd
  rw [upd_comm hne]
  refine h a _ ha (fun b z e => ?_) (.inr ⟨d, hne, ?_, upd_same⟩)
  · rw [upd_ne (ne_of_none e hd')]
    exact Same.new2 ha hd' b z e
  · rw [upd_ne (Ne.symm hne), upd_same]
theorem E1.pe (E : E1 X.K X.mg S C nm f) (rm : Room 2 X.A) (hg : Gl X nm) (ha : PA X [e] ta) (hdb : (nm == ("__debug__" : Str)) = false := by decide)
    (hs : starEach [e] X.env = (false, eval e X.env) :: starEach [] X.env := by rfl) : PE X (.Call (.Name nm p) [e] [] pos) (tX1 C f ta) := by
  obtain ⟨fI, fd, iC, tI, hb, F⟩ := E.fi
  constructor
  intro pins s σ H Q I h
  refine wpAny_Call_Name_kw (ld_glob I hg E.gm ?_ hdb)
  refine PySem.W.callWith_K (h₀ := X.base) I.ok.mod.kin E.xc.kp ?_ hs rfl
  refine thn (ha.run pos pins s σ H _ I h) fun us s1 z => ?_
  obtain ⟨vs, H1, I1, r, v, rfl, q⟩ := z
  exact ⟨I1.kIn, run_mkx E.xc.oex iC tI (F _ _ _) rm hb .nil pass0 I1 r (by show 1 ≤ 1000; decide) q.mk1⟩
theorem E2.pe (E : E2 X.K X.mg S C nm f g) (rm : Room 2 X.A) (hg : Gl X nm) (ha : PA X [e, e2] ta) (hdb : (nm == ("__debug__" : Str)) = false := by decide)
    (hs : starEach [e, e2] X.env = (false, eval e X.env) :: starEach [e2] X.env := by rfl) (hpl : (backTo pos (starEach [e2] X.env)).any (·.1) = false := by rfl) :
    PE X (.Call (.Name nm p) [e, e2] [] pos) (tX2 C f g ta) := by
  obtain ⟨fI, fd, iC, tI, hb, _, F⟩ := E.fi
  constructor
  intro pins s σ H Q I h
  refine wpAny_Call_Name_kw (ld_glob I hg E.gm ?_ hdb)
  refine PySem.W.callWith_K (h₀ := X.base) I.ok.mod.kin E.xc.kp ?_ hs hpl
  refine thn (ha.run pos pins s σ H _ I h) fun us s1 z => ?_
  obtain ⟨vs, H1, I1, r, v, u, rfl, q⟩ := z
  exact ⟨I1.kIn, run_mkx E.xc.oex iC tI (F _ _ _) rm hb .nil pass0 I1 r (by show 2 ≤ 1000; decide) q.mk2⟩
theorem E2.pek (E : E2 X.K X.mg S C nm f g) (rm : Room 2 X.A) (hg : Gl X nm) (hkw : PK X kws tk)
    (hall : (backToKw pos (keywordEach kws X.env)).all (·.1.isSome) = true := by rfl)
    (hks : (backToKw pos (keywordEach kws X.env)).filterMap (·.1) = [g, f] := by rfl)
    (hdb : (nm == ("__debug__" : Str)) = false := by decide)
    (hpl : ((backTo pos (starEach [] X.env)).any (·.1) || (backToKw pos (keywordEach kws X.env)).any (·.1.isNone)) = false := by rfl) :
    PE X (.Call (.Name nm p) [] kws pos) (tX2k C f g tk) := by
  obtain ⟨fI, fd, iC, tI, _, hb, F⟩ := E.fi
  constructor
  intro pins s σ H Q I h
  refine wpAny_Call_Name_kw (ld_glob I hg E.gm ?_ hdb)
  refine PySem.W.callWith_KW0 (h₀ := X.base) I.ok.mod.kin E.xc.kp hall ?_ hpl
  refine thn (hkw.run pos pins s σ H _ I h) fun us s1 z => ?_
  obtain ⟨vs, H1, I1, r, v, u, rfl, q⟩ := z
  refine ⟨I1.kIn, ?_⟩
  rw [hks]
  exact run_mkk E.xc.oex iC tI (F _ _ _) rm hb pass0 I1 r rfl q.mk2
theorem E0.pe (E : E0 X.K X.mg S C nm) (hg : Gl X nm) (hdb : (nm == ("__debug__" : Str)) = false := by decide) : PE X (.Call (.Name nm p) [] [] pos) (tX0 C) := by
  refine pe_imp (pe_mk0 PySem.F.excBase_ValueError E.xc.oex E.ex hg E.gm hdb) fun σ H Q h a ha => ?_
  exact h a _ ha (same_upd' ha) (.inl ⟨rfl, upd_same⟩)
end
end Gk
set_option Elab.async false
set_option linter.all false
set_option maxRecDepth 100000
set_option maxHeartbeats 4000000
namespace Gk
open PySem PySem.Spec PyProof.Rows L2
theorem sqT_same {K : PySem.W.Frag} {H H' : Hp} {a : Addr} {xs : List V} (e : Same H H') (h : SqT K H a xs) : SqT K H' a xs := by
  rcases h with (h | ⟨o, h⟩) | h
  · exact .inl (.inl (e _ _ h))
  · exact .inl (.inr ⟨o, e _ _ h⟩)
  · exact .inr h
mutual
theorem dp_same {K : PySem.W.Frag} {H H' : Hp} (e : Same H H') : ∀ (d : PyData) (v : V), Dp K H v d → Dp K H' v d
  | .none, _, h => by cases h; exact .non
  | .bool b, _, h => by cases h; exact .bl b
  | .int i, _, h => by cases h; exact .int i
  | .str x, _, h => by cases h; exact .str x
  | .list ds, _, h => by
    cases h with
    | lst a b => exact .lst (Same.seq e a) (dpAll_same e ds _ b)
  | .tuple ds, _, h => by
    cases h with
    | tup a b => exact .tup (sqT_same e a) (dpAll_same e ds _ b)
  | .dict _, _, h => by cases h
theorem dpAll_same {K : PySem.W.Frag} {H H' : Hp} (e : Same H H') : ∀ (ds : List PyData) (vs : List V), DpAll K H vs ds → DpAll K H' vs ds
  | [], _, h => by cases h; exact .nil
  | d :: ds, _, h => by
    cases h with
    | cons a b => exact .cons (dp_same e d _ a) (dpAll_same e ds _ b)
end
/-- data that is shown in short -/
structure Showy (n k : Nat) (d : PyData) : Prop where
  sh : d.showable = true
  nd : d.hasDict = false
  dp : d.depth ≤ n
  lf : d.leavesShort 13 = true
  bk : d.bulk ≤ k
theorem Showy.fits {n k : Nat} {d : PyData} (s : Showy n k d) (hk : k ≤ 1000) : d.shown.length ≤ sizeLine :=
  PyData.shown_fits_bulk (B := 13) (by decide) (by decide) s.lf (Nat.le_trans s.bk (Nat.le_trans hk (by decide)))
theorem Showy.up {n k m j : Nat} {d : PyData} (s : Showy n k d) (h1 : n ≤ m) (h2 : k ≤ j) : Showy m j d := ⟨s.sh, s.nd, Nat.le_trans s.dp h1, s.lf, Nat.le_trans s.bk h2⟩
theorem Showy.pair {n k j : Nat} {d e : PyData} (a : Showy n k d) (b : Showy n j e) : Showy (n + 1) (k + j + 10) (.tuple [d, e]) where
  sh := by simp only [PyData.showable, PyData.showableAll, a.sh, b.sh, Bool.and_self]
  nd := by simp only [PyData.hasDict, PyData.hasDictAll, a.nd, b.nd, Bool.or_self]
  dp := by
    have h1 := a.dp
    have h2 := b.dp
    simp only [PyData.depth, PyData.depthAll]
    omega
  lf := by simp only [PyData.leavesShort, PyData.leavesShortAll, a.lf, b.lf, Bool.and_self]
  bk := by
    have h1 := a.bk
    have h2 := b.bk
    simp only [PyData.bulk, PyData.bulkAll]
    omega
/-- repr(x), x short -/
def rRep (K : PySem.W.Frag) : List V → Hp → VK → Prop := fun xs H Q => ∃ (x : V) (d : PyData), xs = [x] ∧ Dp K H x d ∧ Showy 8 1000 d ∧ Q (.str d.shown) H
theorem call_rep {X : Cx} (qa : Quiet X.A) (hu : X.A.units + 64 < cLine) : CallR X (.builtin "repr") (rRep X.K) := fun pins s σ H xs us Q I r h => by
  obtain ⟨x, d, e, hd, z, q⟩ := h
  exact call_repr qa hu pins s σ H xs us Q I r ⟨x, d, e, hd, z.sh, z.nd, Nat.le_trans z.dp (by decide), z.fits (Nat.le_refl _), q⟩
/-! ### comprehensions over a list -/
/-- what stands but the growing list D -/
def ButD (D : Addr) (H H' : Hp) : Prop := ∀ b o, b ≠ D → H b = some o → H' b = some o
/-- every item gives one item: G says what of the i-th one -/
theorem lc_map {K : PySem.W.Frag} {a : Addr} {xs : List V} {te : TE} {vs : List Nat} {j : Nat} {σ : L2.St} {H1 : Hp} {Q : VK} (G : Hp → Nat → V → Prop)
    (hw : ∀ x, wipe ((wipe σ vs).set j (some x)) vs = wipe σ vs) (ha : SqL K H1 a xs) (hl : xs.length ≤ 1000)
    (stab : ∀ (D : Addr) (acc : List V) (H4 H5 : Hp) (i : Nat) (y : V), H4 D = some (.lst acc) → ButD D H4 H5 → G H4 i y → G H5 i y)
    (he : ∀ (i : Nat) (x : V) (H' : Hp) (R : VK), xs[i]? = some x → Same H1 H' → (∀ y H4, Same H' H4 → G H4 i y → R y H4) → te ((wipe σ vs).set j (some x)) H' R)
    (k : ∀ (D : Addr) (ys : List V) (H' : Hp), Same H1 H' → H1 D = none → H' D = some (.lst ys) → ys.length = xs.length → (∀ (i : Nat) (y : V), ys[i]? = some y → G H' i y) → Q (.ref D) H')
    (D : Addr) (hD : H1 D = none) : ∃ W : Nat → Nat → Hp → Prop, (∃ m, W 0 m (upd H1 D (.lst []))) ∧ ∀ i m H, W i m H →
      ((Itl K a).stop i H ∧ Q (.ref D) H) ∨ ((Itl K a).go i H ∧ ∃ Nx : Hp → Prop, (∀ H', Nx H' → ∃ m', m' < m ∧ W (i + 1) m' H') ∧ ∀ x H', (Itl K a).yld i H x H' → gName j x (wipe σ vs) H' fun σ2 H2 => wipe σ2 vs = wipe σ vs ∧ tYes σ2 H2 fun b H3 =>
        if b = true then te σ2 H3 fun y H4 => ∃ acc, H4 D = some (.lst acc) ∧ acc.length < sizeLine ∧ Nx (upd H4 D (.lst (acc ++ [y]))) else Nx H3) := by
  refine lc_list (fun i H => ∃ ys : List V, Same H1 H ∧ H D = some (.lst ys) ∧ ys.length = i ∧ ∀ (n : Nat) (y : V), ys[n]? = some y → G H n y)
    ⟨[], same_upd' hD, upd_same, rfl, fun n y h => by simp at h⟩ (fun i H _ ⟨_, s, _⟩ => s.seq ha) ?_ ?_
  · rintro i x H hx ⟨ys, s, hd, ln, g⟩
    refine ⟨hw x, ?_⟩
    refine he i x H _ hx s fun y H4 s4 g4 => ?_
    have hd4 := s4 _ _ hd
    have hi : i < xs.length := (List.getElem?_eq_some_iff.mp hx).1
    refine ⟨ys, hd4, small1000 (by omega), ys ++ [y], fun b o e => ?_, upd_same, by rw [List.length_append, ln]; rfl, fun n z hz => ?_⟩
    · rw [upd_ne (ne_of_none e hD)]
      exact s4 b o (s b o e)
    · have bd : ButD D H4 (upd H4 D (.lst (ys ++ [y]))) := fun b o hb e => by rw [upd_ne hb]; exact e
      rcases Nat.lt_or_ge n ys.length with h | h
      · rw [List.getElem?_append_left h] at hz
        have g0 := g n z hz
        refine stab D ys H4 _ n z hd4 bd (stab D ys H _ n z hd (fun b o _ e => s4 b o e) g0)
      · rw [List.getElem?_append_right h] at hz
        have e0 : n - ys.length = 0 := by
          rcases Nat.eq_zero_or_pos (n - ys.length) with q | q
          · exact q
          · rw [List.getElem?_eq_none (by simp; omega)] at hz
            cases hz
        rw [e0] at hz
        have ez : y = z := Option.some.inj hz
        have en : n = i := by omega
        subst ez en
        exact stab D ys H4 _ n y hd4 bd g4
  · rintro H ⟨ys, s, hd, ln, g⟩
    exact k D ys H s hD hd ln g
/-- no item passes the test -/
theorem lc_empty {K : PySem.W.Frag} {a : Addr} {xs : List V} {te : TE} {tt : TT} {vs : List Nat} {j : Nat} {σ : L2.St} {H1 : Hp} {Q : VK}
    (hw : ∀ x, wipe ((wipe σ vs).set j (some x)) vs = wipe σ vs) (ha : SqL K H1 a xs)
    (ht : ∀ (i : Nat) (x : V) (H' : Hp) (R : Bool → Hp → Prop), xs[i]? = some x → Same H1 H' → (∀ H4, Same H' H4 → R false H4) → tt ((wipe σ vs).set j (some x)) H' R)
    (k : ∀ (D : Addr) (H' : Hp), Same H1 H' → H1 D = none → H' D = some (.lst []) → Q (.ref D) H')
    (D : Addr) (hD : H1 D = none) : ∃ W : Nat → Nat → Hp → Prop, (∃ m, W 0 m (upd H1 D (.lst []))) ∧ ∀ i m H, W i m H →
      ((Itl K a).stop i H ∧ Q (.ref D) H) ∨ ((Itl K a).go i H ∧ ∃ Nx : Hp → Prop, (∀ H', Nx H' → ∃ m', m' < m ∧ W (i + 1) m' H') ∧ ∀ x H', (Itl K a).yld i H x H' → gName j x (wipe σ vs) H' fun σ2 H2 => wipe σ2 vs = wipe σ vs ∧ tt σ2 H2 fun b H3 =>
        if b = true then te σ2 H3 fun y H4 => ∃ acc, H4 D = some (.lst acc) ∧ acc.length < sizeLine ∧ Nx (upd H4 D (.lst (acc ++ [y]))) else Nx H3) := by
  refine lc_list (fun i H => Same H1 H ∧ H D = some (.lst [])) ⟨same_upd' hD, upd_same⟩ (fun i H _ z => z.1.seq ha) ?_ fun H z => k D H z.1 hD z.2
  rintro i x H hx ⟨s, hd⟩
  refine ⟨hw x, ht i x H _ hx s fun H4 s4 => ?_⟩
  rw [if_neg Bool.false_ne_true]
  exact ⟨s.trans s4, s4 _ _ hd⟩
end Gk
set_option Elab.async false
set_option linter.all false
set_option maxRecDepth 100000
set_option maxHeartbeats 1000000
/-! Data that may hold dicts: what is read, how it is shown, of which type it is. -/
namespace Gk
open PySem PySem.Spec PyProof.Rows L2
mutual
inductive Dq (K : PySem.W.Frag) (H : Hp) : V → PyData → Prop where
  | non : Dq K H .non .none
  | bl (b : Bool) : Dq K H (.bl b) (.bool b)
  | int (i : Int) : Dq K H (.int i) (.int i)
  | str (x : Str) : Dq K H (.str x) (.str x)
  | lst {a : Addr} {xs : List V} {ds : List PyData} : SqL K H a xs → DqAll K H xs ds → Dq K H (.ref a) (.list ds)
  | tup {a : Addr} {xs : List V} {ds : List PyData} : SqT K H a xs → DqAll K H xs ds → Dq K H (.ref a) (.tuple ds)
  | dct {a : Addr} {kvs : List (Key × V)} {ds : List (PyData × PyData)} : H a = some (.dK kvs) → DqAll K H (kvs.map fun p => kV p.1) (ds.map (·.1)) → DqAll K H (kvs.map (·.2)) (ds.map (·.2)) → Dq K H (.ref a) (.dict ds)
inductive DqAll (K : PySem.W.Frag) (H : Hp) : List V → List PyData → Prop where
  | nil : DqAll K H [] []
  | cons {v : V} {vs : List V} {d : PyData} {ds : List PyData} : Dq K H v d → DqAll K H vs ds → DqAll K H (v :: vs) (d :: ds)
end
mutual
theorem dq_dp {K : PySem.W.Frag} {H : Hp} : ∀ (d : PyData) (v : V), Dp K H v d → Dq K H v d
  | .none, _, h => by cases h; exact .non
  | .bool b, _, h => by cases h; exact .bl b
  | .int i, _, h => by cases h; exact .int i
  | .str x, _, h => by cases h; exact .str x
  | .list ds, _, h => by
    cases h with
    | lst a b => exact .lst a (dqAll_dp ds _ b)
  | .tuple ds, _, h => by
    cases h with
    | tup a b => exact .tup a (dqAll_dp ds _ b)
  | .dict _, _, h => by cases h
theorem dqAll_dp {K : PySem.W.Frag} {H : Hp} : ∀ (ds : List PyData) (vs : List V), DpAll K H vs ds → DqAll K H vs ds
  | [], _, h => by cases h; exact .nil
  | d :: ds, _, h => by
    cases h with
    | cons a b => exact .cons (dq_dp d _ a) (dqAll_dp ds _ b)
end
theorem DqAll.length {K : PySem.W.Frag} {H : Hp} : ∀ {vs : List V} {ds : List PyData}, DqAll K H vs ds → vs.length = ds.length
  | _, _, .nil => rfl
  | _, _, .cons _ b => by rw [List.length_cons, List.length_cons, DqAll.length b]
theorem DqAll.get {K : PySem.W.Frag} {H : Hp} : ∀ {vs : List V} {ds : List PyData} {i : Nat} {v : V}, DqAll K H vs ds → vs[i]? = some v → ∃ d, ds[i]? = some d ∧ Dq K H v d
  | _, _, _, _, .nil, e => by simp at e
  | _, _, 0, _, .cons r _, e => by
    cases (Option.some.inj e)
    exact ⟨_, rfl, r⟩
  | _, _, i + 1, v, .cons _ t, e => by
    obtain ⟨d, h1, h2⟩ := DqAll.get (i := i) (v := v) t (by simpa using e)
    exact ⟨d, by simpa using h1, h2⟩
theorem DqAll.append {K : PySem.W.Frag} {H : Hp} : ∀ {xs ys : List V} {ds es : List PyData}, DqAll K H xs ds → DqAll K H ys es → DqAll K H (xs ++ ys) (ds ++ es)
  | _, _, _, _, .nil, s => s
  | _, _, _, _, .cons r t, s => .cons r (DqAll.append t s)
theorem DqAll.set {K : PySem.W.Frag} {H : Hp} {v : V} {d : PyData} (r : Dq K H v d) : ∀ {xs : List V} {ds : List PyData} (i : Nat), DqAll K H xs ds → DqAll K H (xs.set i v) (ds.set i d)
  | _, _, _, .nil => .nil
  | _, _, 0, .cons _ t => .cons r t
  | _, _, i + 1, .cons q t => .cons q (DqAll.set r i t)
theorem DqAll.take {K : PySem.W.Frag} {H : Hp} : ∀ {xs : List V} {ds : List PyData} (n : Nat), DqAll K H xs ds → DqAll K H (xs.take n) (ds.take n)
  | _, _, 0, _ => .nil
  | _, _, _ + 1, .nil => .nil
  | _, _, n + 1, .cons r t => .cons r (DqAll.take n t)
theorem DqAll.drop {K : PySem.W.Frag} {H : Hp} : ∀ {xs : List V} {ds : List PyData} (n : Nat), DqAll K H xs ds → DqAll K H (xs.drop n) (ds.drop n)
  | _, _, 0, r => r
  | _, _, _ + 1, .nil => .nil
  | _, _, n + 1, .cons _ t => DqAll.drop n t
mutual
theorem dq_same {K : PySem.W.Frag} {H H' : Hp} (e : Same H H') : ∀ (d : PyData) (v : V), Dq K H v d → Dq K H' v d
  | .none, _, h => by cases h; exact .non
  | .bool b, _, h => by cases h; exact .bl b
  | .int i, _, h => by cases h; exact .int i
  | .str x, _, h => by cases h; exact .str x
  | .list ds, _, h => by
    cases h with
    | lst a b => exact .lst (Same.seq e a) (dqAll_same e ds _ b)
  | .tuple ds, _, h => by
    cases h with
    | tup a b => exact .tup (sqT_same e a) (dqAll_same e ds _ b)
  | .dict kvs, _, h => by
    cases h with
    | dct a b c => exact .dct (e _ _ a) (dqKv_same1 e kvs _ b) (dqKv_same2 e kvs _ c)
theorem dqAll_same {K : PySem.W.Frag} {H H' : Hp} (e : Same H H') : ∀ (ds : List PyData) (vs : List V), DqAll K H vs ds → DqAll K H' vs ds
  | [], _, h => by cases h; exact .nil
  | d :: ds, _, h => by
    cases h with
    | cons a b => exact .cons (dq_same e d _ a) (dqAll_same e ds _ b)
theorem dqKv_same1 {K : PySem.W.Frag} {H H' : Hp} (e : Same H H') : ∀ (ds : List (PyData × PyData)) (vs : List V), DqAll K H vs (ds.map (·.1)) → DqAll K H' vs (ds.map (·.1))
  | [], _, h => by cases h; exact .nil
  | (d, f) :: ds, _, h => by
    cases h with
    | cons a b => exact .cons (dq_same e d _ a) (dqKv_same1 e ds _ b)
theorem dqKv_same2 {K : PySem.W.Frag} {H H' : Hp} (e : Same H H') : ∀ (ds : List (PyData × PyData)) (vs : List V), DqAll K H vs (ds.map (·.2)) → DqAll K H' vs (ds.map (·.2))
  | [], _, h => by cases h; exact .nil
  | (d, f) :: ds, _, h => by
    cases h with
    | cons a b => exact .cons (dq_same e f _ a) (dqKv_same2 e ds _ b)
end
/-- the table of modules stands as a dict -/
def SysK (K : PySem.W.Frag) : Prop := ∃ o, K.lookup sysModules = some o ∧ o.cls = .type "dict"
theorem Pairs.keys {P : Program} {w : World} : ∀ {es : List DictEntry} {kvs : List (Key × Value)} {ks : List (Key × V)}, Pairs (mixKind P w) es kvs → KV ks kvs →
    Vals (ks.map fun p => kV p.1) (es.map (·.key)) ∧ Vals (ks.map (·.2)) (es.map (·.val))
  | _, _, _, .nil, .nil => ⟨.nil, .nil⟩
  | _, _, _, .cons h1 h2 t, .cons r rs => by
    obtain ⟨a, b⟩ := Pairs.keys t rs
    refine ⟨.cons ?_ a, .cons ?_ b⟩
    · dsimp only
      rw [r.1]
      exact relV_key h1
    · dsimp only
      rw [h2]
      exact r.2
section
variable {X : Cx} {pins : List (Addr × Obj)} {σ : L2.St} {H : Hp} {s : Shared}
mutual
theorem Dq.reads (S : SysK X.K) (I : Inv X pins σ H s) : ∀ (d : PyData) (v : V) (u : Value), Dq X.K H v d → RelV v u → ∃ as, Reads s.heap u d as ∧ sysModules ∉ as
  | .none, _, _, h, r => by
    cases h
    cases r
    exact ⟨_, Reads.none, List.not_mem_nil⟩
  | .bool b, _, _, h, r => by
    cases h
    cases r
    exact ⟨_, Reads.bool b, List.not_mem_nil⟩
  | .int i, _, _, h, r => by
    cases h
    obtain ⟨t, rfl⟩ := r
    exact ⟨_, Reads.int i t, List.not_mem_nil⟩
  | .str x, _, _, h, r => by
    cases h
    obtain ⟨t, rfl⟩ := r
    exact ⟨_, Reads.str x t, List.not_mem_nil⟩
  | .list ds, _, _, h, r => by
    cases h with
    | lst hs ha =>
      cases r
      obtain ⟨its, rv, ⟨o, n, ho, hc, _, hd⟩, _⟩ := I.list hs
      obtain ⟨as, hr, hn⟩ := Dq.readsAll S I ds _ its ha rv
      refine ⟨_, Reads.list ho hc hd hr, fun z => ?_⟩
      rcases List.mem_cons.mp z with z | z
      · obtain ⟨o2, l, c2⟩ := S
        have e := I.kIn _ _ l
        rw [z, ho] at e
        rw [← Option.some.inj e, hc] at c2
        exact absurd c2 (by decide)
      · exact hn z
  | .tuple ds, _, _, h, r => by
    cases h with
    | tup hs ha =>
      cases r
      obtain ⟨its, rv, ⟨o, ho, hc, n, hd⟩, _⟩ := I.tuple hs
      obtain ⟨as, hr, hn⟩ := Dq.readsAll S I ds _ its ha rv
      exact ⟨_, Reads.tuple ho hc hd hr, hn⟩
  | .dict kvs, _, _, h, r => by
    cases h with
    | @dct a ks _ ha hk hv =>
      cases r
      obtain ⟨_, z, vs, kv, o, es, ep, ho, hx, hdt, hkeys, hp, _⟩ := I.hok a _ ha
      obtain ⟨r1, r2⟩ := Pairs.keys hp kv
      obtain ⟨as, q1, n1⟩ := Dq.readsKv1 S I kvs _ _ hk r1
      obtain ⟨bs, q2, n2⟩ := Dq.readsKv2 S I kvs _ _ hv r2
      refine ⟨_, Reads.dict ho hx.1 hdt q1 q2, fun y => ?_⟩
      rcases List.mem_append.mp y with y | y
      · rcases List.mem_cons.mp y with y | y
        · rw [← y] at z
          exact absurd z (by simp)
        · exact n1 y
      · exact n2 y
theorem Dq.readsAll (S : SysK X.K) (I : Inv X pins σ H s) : ∀ (ds : List PyData) (vs : List V) (us : List Value), DqAll X.K H vs ds → Vals vs us → ∃ as, ReadsAll s.heap us ds as ∧ sysModules ∉ as
  | [], _, _, h, r => by
    cases h
    cases r
    exact ⟨_, ReadsAll.nil, List.not_mem_nil⟩
  | d :: ds, _, _, h, r => by
    cases h with
    | cons h1 h2 =>
      cases r with
      | cons r1 r2 =>
        obtain ⟨as, q1, n1⟩ := Dq.reads S I d _ _ h1 r1
        obtain ⟨bs, q2, n2⟩ := Dq.readsAll S I ds _ _ h2 r2
        exact ⟨_, ReadsAll.cons q1 q2, fun z => (List.mem_append.mp z).elim n1 n2⟩
theorem Dq.readsKv1 (S : SysK X.K) (I : Inv X pins σ H s) : ∀ (ds : List (PyData × PyData)) (vs : List V) (us : List Value), DqAll X.K H vs (ds.map (·.1)) → Vals vs us → ∃ as, ReadsAll s.heap us (ds.map (·.1)) as ∧ sysModules ∉ as
  | [], _, _, h, r => by
    cases h
    cases r
    exact ⟨_, ReadsAll.nil, List.not_mem_nil⟩
  | (d, f) :: ds, _, _, h, r => by
    cases h with
    | cons h1 h2 =>
      cases r with
      | cons r1 r2 =>
        obtain ⟨as, q1, n1⟩ := Dq.reads S I d _ _ h1 r1
        obtain ⟨bs, q2, n2⟩ := Dq.readsKv1 S I ds _ _ h2 r2
        exact ⟨_, ReadsAll.cons q1 q2, fun z => (List.mem_append.mp z).elim n1 n2⟩
theorem Dq.readsKv2 (S : SysK X.K) (I : Inv X pins σ H s) : ∀ (ds : List (PyData × PyData)) (vs : List V) (us : List Value), DqAll X.K H vs (ds.map (·.2)) → Vals vs us → ∃ as, ReadsAll s.heap us (ds.map (·.2)) as ∧ sysModules ∉ as
  | [], _, _, h, r => by
    cases h
    cases r
    exact ⟨_, ReadsAll.nil, List.not_mem_nil⟩
  | (d, f) :: ds, _, _, h, r => by
    cases h with
    | cons h1 h2 =>
      cases r with
      | cons r1 r2 =>
        obtain ⟨as, q1, n1⟩ := Dq.reads S I f _ _ h1 r1
        obtain ⟨bs, q2, n2⟩ := Dq.readsKv2 S I ds _ _ h2 r2
        exact ⟨_, ReadsAll.cons q1 q2, fun z => (List.mem_append.mp z).elim n1 n2⟩
end
end
/-- data that is shown in short, dicts among it -/
structure Shown (n k : Nat) (d : PyData) : Prop where
  sh : d.showable = true
  dp : d.depth ≤ n
  lf : d.leavesShort 13 = true
  bk : d.bulk ≤ k
theorem Shown.fits {n k : Nat} {d : PyData} (s : Shown n k d) (hk : k ≤ 1000000) : d.shown.length ≤ sizeLine :=
  PyData.shown_fits_bulk (B := 13) (by decide) (by decide) s.lf (Nat.le_trans s.bk (Nat.le_trans hk (by decide)))
theorem Shown.up {n k m j : Nat} {d : PyData} (s : Shown n k d) (h1 : n ≤ m) (h2 : k ≤ j) : Shown m j d := ⟨s.sh, Nat.le_trans s.dp h1, s.lf, Nat.le_trans s.bk h2⟩
theorem Showy.shown {n k : Nat} {d : PyData} (s : Showy n k d) : Shown n k d := ⟨s.sh, s.dp, s.lf, s.bk⟩
/-- repr(x), x short data, dicts among it -/
def rRepD (K : PySem.W.Frag) : List V → Hp → VK → Prop := fun xs H Q => ∃ (x : V) (d : PyData), xs = [x] ∧ Dq K H x d ∧ Shown 8 1000000 d ∧ Q (.str d.shown) H
theorem call_repD {X : Cx} (S : SysK X.K) (qa : Quiet X.A) (hu : X.A.units + 64 < cLine) : CallR X (.builtin "repr") (rRepD X.K) := by
  intro pins s σ H xs us Q I r h
  obtain ⟨x, d, rfl, hd, sw, q⟩ := h
  obtain ⟨u, rfl, ru⟩ := vals1 r
  obtain ⟨as, rd, na⟩ := Dq.reads S I d x u hd ru
  have sh := sw.sh
  have sz := sw.fits (Nat.le_refl _)
  have dp := sw.dp
  have keep : ∀ (h' : Heap) (t : Tok) (tk : Nat), (∀ b o, s.heap.get? b = some o → h'.get? b = some o) →
      EP X pins σ Q (.str d.shown t) { s with heap := h', toks := tk } :=
    fun h' t tk k => ⟨.str d.shown, H, I.kept (t' := tk) k, ⟨t, rfl⟩, q⟩
  have flat : ∀ (t : Tok) (tk : Nat), EP X pins σ Q (.str d.shown t) { s with toks := tk } :=
    fun t tk => ⟨.str d.shown, H, I.tok tk, ⟨t, rfl⟩, q⟩
  cases d with
  | none => cases rd; exact PySem.P.repr_of_none (flat _ _)
  | bool b => cases rd; exact PySem.P.repr_of_bool (flat _ _)
  | int i =>
    cases rd
    exact PySem.P.repr_of_int (of_decide_eq_true (by simpa only [PyData.showable] using sh)) (flat _ _)
  | str y => cases rd; exact PySem.P.repr_of_str (flat _ _) sz
  | list ds =>
    cases rd with
    | list a1 a2 a3 a4 => exact repr_of_reads' (.list a1 a2 a3 a4) sh (fun _ => na) qa (by omega) (fun _ _ z => z) (fun h' t tk k => keep h' t tk k) sz
  | tuple ds =>
    cases rd with
    | tuple a1 a2 a3 a4 => exact repr_of_reads' (.tuple a1 a2 a3 a4) sh (fun _ => na) qa (by omega) (fun _ _ z => z) (fun h' t tk k => keep h' t tk k) sz
  | dict kv =>
    cases rd with
    | dict a1 a2 a3 a4 a5 => exact repr_of_reads' (.dict a1 a2 a3 a4 a5) sh (fun _ => na) qa (by omega) (fun _ _ z => z) (fun h' t tk k => keep h' t tk k) sz
/-- a datum's type -/
def tyD : PyData → String
  | .none => "NoneType"
  | .bool _ => "bool"
  | .int _ => "int"
  | .str _ => "str"
  | .list _ => "list"
  | .tuple _ => "tuple"
  | .dict _ => "dict"
theorem tyx_of {K : PySem.W.Frag} {H : Hp} {v : V} {d : PyData} (h : Dq K H v d) : TyX K H v (.type (tyD d)) := by
  cases h with
  | non => exact .base .non
  | bl b => exact .base (.bl b)
  | int i => exact .base (.int i)
  | str x => exact .base (.str x)
  | lst a _ =>
    rcases a with (a | ⟨o, a⟩) | ⟨o, _, _, a, c, _⟩
    · exact .base (.lst a)
    · exact .base (.frz a)
    · exact .kList a c
  | tup a _ =>
    rcases a with (a | ⟨o, a⟩) | ⟨o, _, _, a, c, _⟩
    · exact .base (.tup a)
    · exact .fTuple a
    · exact .kTuple a c
  | dct a _ _ => exact .base (.dK a)
end Gk
set_option Elab.async false
set_option linter.all false
set_option maxRecDepth 100000
/-! enumerate over a tuple; a walk over what is a list or a tuple. -/
namespace PySem
open Sem (wp)
open AutoSeq1 (wpAny_loadPart')
section
variable {pg : Program} {wd : World} {Z : Around} {X : Value → Shared → Prop} {st : Shared}
/-- the inner iterator of an enumerate: over a tuple -/
theorem nextOf_tup {r b : Addr} {k : Nat} {xs : Array Value} {v : Value} {R : Value → Shared → Prop} (hr : st.heap.IsTupleIter r b k)
    (hb : st.heap.IsTuple b xs) (hv : xs[k]? = some v)
    (hR : ∀ g, g.IsTupleIter r b (k + 1) → Heap.SameBut r st.heap g → R v { st with heap := g }) :
    wpAny (model pg wd) Z (Builtin.SmallTypes.nextOf (.ref r)) R X st := by
  obtain ⟨ob, e1, e2, e3⟩ := id hr
  obtain ⟨oc, f1, _, m, f3⟩ := hb
  unfold Builtin.SmallTypes.nextOf
  refine wpAny_bind (wpAny_callSpecial?_slot (name := Str.ofString "__next__") hr.typeIs F.slot_tuple_iterator_next
    (wpAny_call_entry F.slot_tuple_iterator_next hr.typeIs F.entry_tuple_iterator_next ?next (F.args_tuple_iterator_next_1 _)))
  case next =>
    show wpAny _ _ (field (.ref r) 0 >>= _) _ _ st
    refine wpAny_bind (wpAny_field e1 e3 (x := .ref b) rfl ?a)
    case a =>
      show wpAny _ _ (if (Value.ref b == Value.none) = true then _ else _) _ _ st
      rw [if_neg (fun z => Bool.false_ne_true z : ¬ ((Value.ref b == Value.none) = true))]
      show wpAny _ _ (field (.ref r) 1 >>= _) _ _ st
      refine wpAny_bind (wpAny_field e1 e3 (x := .int k 0) rfl ?b)
      case b =>
        show wpAny _ _ (seqItems? (.ref b) >>= _) _ _ st
        refine wpAny_bind (wpAny_seqItems f1 f3 ?c)
        case c =>
          simp only [Int.toNat_natCast, hv]
          refine wpAny_bind (wpAny_setField e1 e3 (by simp) (wpAny_pure ⟨v, rfl, wpAny_pure (hR _ ?d (Heap.SameBut.update ..))⟩))
          case d =>
            exact ⟨_, Heap.get?_update_self _ e1 (Obj.isFreed_of_fields (Obj.data_mapFields e3 _)), (Obj.cls_mapFields ..).trans e2, by
              rw [Obj.data_mapFields e3]
              simp [rawInt]⟩
theorem nextOf_tup_end {r b : Addr} {k : Nat} {xs : Array Value} {R : Value → Shared → Prop} (hh : Z.handled = none)
    (hr : st.heap.IsTupleIter r b k) (hb : st.heap.IsTuple b xs) (hv : xs[k]? = none)
    (hX : ∀ g e, Heap.ExtBut r st.heap g → (∃ o, g.get? e = some o ∧ o.cls = .type "StopIteration") → X (.ref e) { st with heap := g }) :
    wpAny (model pg wd) Z (Builtin.SmallTypes.nextOf (.ref r)) R X st := by
  obtain ⟨ob, e1, e2, e3⟩ := id hr
  obtain ⟨oc, f1, _, m, f3⟩ := hb
  unfold Builtin.SmallTypes.nextOf
  refine wpAny_bind (wpAny_callSpecial?_slot (name := Str.ofString "__next__") hr.typeIs F.slot_tuple_iterator_next
    (wpAny_call_entry F.slot_tuple_iterator_next hr.typeIs F.entry_tuple_iterator_next ?next (F.args_tuple_iterator_next_1 _)))
  case next =>
    show wpAny _ _ (field (.ref r) 0 >>= _) _ _ st
    refine wpAny_bind (wpAny_field e1 e3 (x := .ref b) rfl ?a)
    case a =>
      show wpAny _ _ (if (Value.ref b == Value.none) = true then _ else _) _ _ st
      rw [if_neg (fun z => Bool.false_ne_true z : ¬ ((Value.ref b == Value.none) = true))]
      show wpAny _ _ (field (.ref r) 1 >>= _) _ _ st
      refine wpAny_bind (wpAny_field e1 e3 (x := .int k 0) rfl ?b)
      case b =>
        show wpAny _ _ (seqItems? (.ref b) >>= _) _ _ st
        refine wpAny_bind (wpAny_seqItems f1 f3 ?c)
        case c =>
          simp only [Int.toNat_natCast, hv]
          refine wpAny_bind (wpAny_rule (wpAny_bind (wpAny_setField e1 e3 (by simp) ?d)))
          case d =>
            show wpAny _ _ (newExc (.type "StopIteration") [] >>= fun _ => _) _ _ _
            refine wpAny_bind ?e
            case e =>
              simp only [newTuple, newExc]
              refine wpAny_bind (wpAny_newObj_type ?f (by size_fits))
              case f =>
                refine wpAny_bind (m := firstArgMember _ _) (wpAny_of_eq (a := Value.none) (by first | rfl | (simp only [firstArgMember] <;> rfl)) ?g)
                case g =>
                  refine wpAny_newObj_type ?h (by size_fits)
                  case h =>
                    simp only [raiseNew]
                    refine wpAny_bind (wpAny_handled ?i)
                    case i =>
                      first | rw [show Z.in1.handled = none from hh] | rw [hh]
                      refine wpAny_bind (wpAny_pure (wpAny_throw ?j))
                      case j => exact hX _ _ (((Heap.SameBut.update ..).extBut.push _).push _) ⟨_, Heap.get?_push_size _ rfl, rfl⟩
/-- one turn of an enumerate over a tuple -/
theorem enum_tup_item {c r b : Addr} {k : Nat} {xs : Array Value} {v old : Value} {R : Value → Shared → Prop}
    (hc : IsEnum st.heap c r k old) (hr : st.heap.IsTupleIter r b k) (hb : st.heap.IsTuple b xs) (hv : xs[k]? = some v) (ne : c ≠ r)
    (hR : ∀ g, IsEnumOut g c r ((k : Int) + 1) v st.heap.objs.size → g.IsTupleIter r b (k + 1) → g.get? st.heap.objs.size = some { cls := .type "tuple", data := .seq #[.int k st.toks, v] } →
      g.objs.size = st.heap.objs.size + 1 → (∀ z o, z ≠ c → z ≠ r → st.heap.get? z = some o → g.get? z = some o) → R (.ref st.heap.objs.size) { st with heap := g, toks := st.toks + 1 }) :
    wpAny (model pg wd) Z (Builtin.«enumerate.__next__» ⟨[.ref c], []⟩) (fun q s2 => ∃ u, q = .done (.ret u) ∧ R u s2) X st := by
  obtain ⟨h0, gs, dr, tk, os⟩ := st
  show wpAny _ _ (field (.ref c) 2 >>= _) _ _ _
  refine wpAny_bind (wpAny_field hc rfl (x := .ref r) rfl ?p1)
  case p1 =>
  refine wpAny_bind (nextOf_tup hr hb hv fun h1 r1 (b1 : Heap.SameBut r h0 h1) => ?p2)
  case p2 =>
  have c1 : IsEnum h1 c r k old := (b1.2 c ne).trans hc
  show wpAny _ _ (field (.ref c) 3 >>= _) _ _ ⟨h1, gs, dr, tk, os⟩
  refine wpAny_bind (wpAny_field c1 rfl (x := rawInt k) rfl ?p3)
  case p3 =>
  show wpAny _ _ (field (.ref c) 4 >>= _) _ _ ⟨h1, gs, dr, tk, os⟩
  refine wpAny_bind (wpAny_field c1 rfl (x := .none) rfl ?p4)
  case p4 =>
  show wpAny _ _ (mkInt k >>= _) _ _ ⟨h1, gs, dr, tk, os⟩
  refine wpAny_bind (wpAny_mkInt ?p5)
  case p5 =>
  show wpAny _ _ (setField (.ref c) 3 (rawInt ((k : Int) + 1)) >>= _) _ _ ⟨h1, gs, dr, tk + 1, os⟩
  refine wpAny_bind (wpAny_setField_rec c1 (by simp) fun h2 (c2 : IsEnum h2 c r ((k : Int) + 1) old) (b2 : Heap.SameBut c h1 h2) => ?p6)
  case p6 =>
  show wpAny _ _ (setField (.ref c) 4 .none >>= _) _ _ ⟨h2, gs, dr, tk + 1, os⟩
  refine wpAny_bind (wpAny_setField_rec c2 (by simp) fun h3 (c3 : IsEnum h3 c r ((k : Int) + 1) old) (b3 : Heap.SameBut c h2 h3) => ?p7)
  case p7 =>
  show wpAny _ _ (newTuple [.int k tk, v] >>= _) _ _ ⟨h3, gs, dr, tk + 1, os⟩
  refine wpAny_bind (wpAny_newTuple ?p8)
  case p8 =>
  have c4 : IsEnum (h3.push { cls := .type "tuple", data := .seq #[.int k tk, v] }) c r ((k : Int) + 1) old := Heap.get?_push_of_some _ c3
  generalize eh : h3.push { cls := .type "tuple", data := .seq #[.int k tk, v] } = h4 at c4
  have z3 : h3.objs.size = h0.objs.size := by rw [b3.1, b2.1, b1.1]
  have lc : c < h0.objs.size := Heap.lt_size hc
  have t4 : h4.get? h0.objs.size = some { cls := .type "tuple", data := .seq #[.int k tk, v] } := by
    rw [← eh, ← z3]
    exact Heap.get?_push_size _ rfl
  have z4 : h4.objs.size = h0.objs.size + 1 := by rw [← eh, Heap.size_push, z3]
  have k4 : ∀ z o, z ≠ c → z ≠ r → h0.get? z = some o → h4.get? z = some o := fun z o n1 n2 q => by
    rw [← eh]
    exact Heap.get?_push_of_some _ (b3.extBut z o n1 (b2.extBut z o n1 (b1.extBut z o n2 q)))
  have r4 : h4.IsTupleIter r b (k + 1) := by
    rw [← eh]
    obtain ⟨o, ho, q⟩ := (r1.extBut b2.extBut (Ne.symm ne)).extBut b3.extBut (Ne.symm ne)
    exact ⟨o, Heap.get?_push_of_some _ ho, q⟩
  show wpAny _ _ (Builtin.SmallTypes.ownedTupleIsFree (.ref c) >>= _) _ _ ⟨h4, gs, dr, tk + 1, os⟩
  rw [z3]
  refine wpAny_bind ?p9
  case p9 =>
  unfold Builtin.SmallTypes.ownedTupleIsFree
  refine wpAny_bind (wpAny_field c4 rfl (x := .none) rfl (wpAny_pure ?q1))
  case q1 =>
  simp only [if_true]
  refine wpAny_bind (wpAny_rule ?q2)
  case q2 =>
  refine wpAny_bind (wpAny_field c4 rfl (x := old) rfl ?q3)
  case q3 =>
  refine wpAny_bind (wpAny_setField_rec c4 (by simp) fun h5 (c5 : IsEnum h5 c r ((k : Int) + 1) v) (b5 : Heap.SameBut c h4 h5) => ?q4)
  case q4 =>
  show wpAny _ _ (Builtin.SmallTypes.ownedTupleHandOut (.ref c) (.ref h0.objs.size) >>= _) _ _ ⟨h5, gs, dr, tk + 1, os⟩
  refine wpAny_bind ?q5
  case q5 =>
  unfold Builtin.SmallTypes.ownedTupleHandOut
  refine wpAny_bind (wpAny_setField_rec c5 (by simp) fun h6 (c6 : IsEnumOut h6 c r ((k : Int) + 1) v h0.objs.size) (b6 : Heap.SameBut c h5 h6) => ?q6)
  case q6 =>
  refine wpAny_setField_rec c6 (by simp) fun h7 (c7 : IsEnumOut h7 c r ((k : Int) + 1) v h0.objs.size) (b7 : Heap.SameBut c h6 h7) => ?q7
  case q7 =>
  refine wpAny_bind (wpAny_letGo (wpAny_pure ⟨_, rfl, hR h7 c7 ?r1 ?r2 ?r3 ?r4⟩))
  case r1 => exact ((r4.extBut b5.extBut (Ne.symm ne)).extBut b6.extBut (Ne.symm ne)).extBut b7.extBut (Ne.symm ne)
  case r2 => exact b7.extBut _ _ (Nat.ne_of_gt lc) (b6.extBut _ _ (Nat.ne_of_gt lc) (b5.extBut _ _ (Nat.ne_of_gt lc) t4))
  case r3 => rw [b7.1, b6.1, b5.1, z4]
  case r4 => exact fun z o n1 n2 q => b7.extBut z o n1 (b6.extBut z o n1 (b5.extBut z o n1 (k4 z o n1 n2 q)))
theorem pyNext_enum_tup {c r b : Addr} {k : Nat} {xs : Array Value} {v old : Value} {R : Option Value → Shared → Prop}
    (hc : IsEnum st.heap c r k old) (hr : st.heap.IsTupleIter r b k) (hb : st.heap.IsTuple b xs) (hv : xs[k]? = some v) (ne : c ≠ r)
    (hR : ∀ g, IsEnumOut g c r ((k : Int) + 1) v st.heap.objs.size → g.IsTupleIter r b (k + 1) → g.get? st.heap.objs.size = some { cls := .type "tuple", data := .seq #[.int k st.toks, v] } →
      g.objs.size = st.heap.objs.size + 1 → (∀ z o, z ≠ c → z ≠ r → st.heap.get? z = some o → g.get? z = some o) → R (some (.ref st.heap.objs.size)) { st with heap := g, toks := st.toks + 1 }) :
    wpAny (model pg wd) Z (pyNext (.ref c)) R X st := by
  have ty : st.TypeIs (.ref c) "enumerate" := ⟨_, hc, rfl⟩
  unfold pyNext
  refine wpAny_bind (wpAny_attempt (wpAny_callSpecial?_slot (name := Str.ofString "__next__") ty F.slot_enumerate_next ?p))
  case p =>
  exact wpAny_call_entry F.slot_enumerate_next ty F.entry_enumerate_next (enum_tup_item hc hr hb hv ne fun g q1 q2 q3 q4 q5 => wpAny_pure (hR g q1 q2 q3 q4 q5)) (F.args_enumerate_next_1 _)
theorem pyNext_enum_tup_end {c r b : Addr} {k : Nat} {xs : Array Value} {old : Value} {R : Option Value → Shared → Prop} (hh : Z.handled = none)
    (hc : IsEnum st.heap c r k old) (hr : st.heap.IsTupleIter r b k) (hb : st.heap.IsTuple b xs) (hv : xs[k]? = none)
    (hR : ∀ g, Heap.ExtBut r st.heap g → R none { st with heap := g }) : wpAny (model pg wd) Z (pyNext (.ref c)) R X st := by
  have ty : st.TypeIs (.ref c) "enumerate" := ⟨_, hc, rfl⟩
  unfold pyNext
  refine wpAny_bind (wpAny_attempt (wpAny_callSpecial?_slot (name := Str.ofString "__next__") ty F.slot_enumerate_next ?p))
  case p =>
  refine wpAny_call_entry F.slot_enumerate_next ty F.entry_enumerate_next ?q (F.args_enumerate_next_1 _)
  case q =>
  show wpAny _ _ (field (.ref c) 2 >>= _) _ _ _
  refine wpAny_bind (wpAny_field hc rfl (x := .ref r) rfl ?p1)
  case p1 =>
  refine wpAny_bind (nextOf_tup_end hh hr hb hv fun g x eg hx => ?p2)
  case p2 =>
  obtain ⟨o, ho, hcl⟩ := hx
  refine wpAny_bind (wpAny_isInstance (T := "StopIteration") (b := true) ⟨o, ho, hcl⟩ isSubtype_stop ?p3)
  case p3 => exact wpAny_pure (hR _ eg)
end
theorem meets_enum_tup (b : Addr) (xs : Array Value) (n : Nat) (dx : Option Addr) (sl : Array (Option Value)) :
    Meets (Builtin.«enumerate.__new__» ⟨[.type "enumerate", .ref b], []⟩) (fun _ R s => s.heap.get? b = some { cls := .type "tuple", dict := dx, data := .seq xs n, slots := sl } ∧
      R (.ok (.ret (.ref (s.heap.push { cls := .type "tuple_iterator", data := .fields #[.ref b, .int 0 0] }).objs.size)))
        { s with heap := (s.heap.push { cls := .type "tuple_iterator", data := .fields #[.ref b, .int 0 0] }).push { cls := .type "enumerate", data := .fields #[.none, .bool false, .ref s.heap.objs.size, rawInt 0, .none, .none] } }) :=
  .of_wp fun pg wd A R s h => by
    obtain ⟨h0, gs, dr, tk, os⟩ := s
    obtain ⟨hb, h⟩ := h
    have su := sub_enumerate
    have T : Heap.IsTuple (Shared.heap ⟨h0, gs, dr, tk, os⟩) b xs := ⟨_, hb, rfl, n, rfl⟩
    wp_walk using wpAny_loadPart' hb
    refine wpAny_stack_any fun sk => wpAny_pure ?p
    case p =>
    split
    · rename_i c _ _ _ _ _
      cases (c == Value.type "enumerate")
      · wp_walk using wpAny_loadPart' hb, wpAny_pyIter_tuple T
        exact ⟨_, rfl, h⟩
      · wp_walk using wpAny_loadPart' hb, wpAny_pyIter_tuple T
        exact ⟨_, rfl, h⟩
    · wp_walk using wpAny_loadPart' hb, wpAny_pyIter_tuple T
      exact ⟨_, rfl, h⟩
theorem call_enum_tup {pg : Program} {wd : World} {Z : Around} {X : Value → Shared → Prop} {st : Shared} {b : Addr} {xs : Array Value} {R : Value → Shared → Prop} (T : st.heap.IsTuple b xs)
    (hR : ∀ g, IsEnum g (st.heap.objs.size + 1) st.heap.objs.size 0 .none → g.IsTupleIter st.heap.objs.size b 0 → g.objs.size = st.heap.objs.size + 2 →
      (∀ z o, st.heap.get? z = some o → g.get? z = some o) → R (.ref (st.heap.objs.size + 1)) { st with heap := g }) :
    wpAny (model pg wd) Z (call (.type "enumerate") [.ref b]) R X st := by
  obtain ⟨⟨oc, dx, dt, sl⟩, hb, q1, n, q2⟩ := T
  dsimp only at q1 q2
  subst q1 q2
  refine callType_new F.called_enumerate (by decide) (F.typeCall_enumerate_1 _) (F.newCall_enumerate_1 _) (fun ob => F.args_object_init_2 ob _) F.entry_enumerate_new (meets_enum_tup b xs n dx sl) ⟨hb, ?p⟩
  case p =>
  have sz : (st.heap.push { cls := .type "tuple_iterator", data := .fields #[.ref b, .int 0 0] }).objs.size = st.heap.objs.size + 1 := Heap.size_push ..
  show _ ∧ _
  rw [sz]
  have en : IsEnum ((st.heap.push { cls := .type "tuple_iterator", data := .fields #[.ref b, .int 0 0] }).push
      { cls := .type "enumerate", data := .fields #[.none, .bool false, .ref st.heap.objs.size, rawInt 0, .none, .none] }) (st.heap.objs.size + 1) st.heap.objs.size 0 .none := by
    have z := Heap.get?_push_size (st.heap.push { cls := .type "tuple_iterator", data := .fields #[.ref b, .int 0 0] })
      (o := { cls := .type "enumerate", data := .fields #[.none, .bool false, .ref st.heap.objs.size, rawInt 0, .none, .none] }) rfl
    rw [sz] at z
    exact z
  refine ⟨⟨_, en, rfl⟩, hR _ en ⟨_, Heap.get?_push_of_some _ (Heap.get?_push_size _ rfl), rfl, rfl⟩ (by rw [Heap.size_push, sz]) fun z o x => ?q⟩
  case q => exact Heap.get?_push_of_some _ (Heap.get?_push_of_some _ x)
end PySem
set_option Elab.async false
set_option linter.all false
set_option maxRecDepth 100000
set_option maxHeartbeats 1000000
/-! What is a list or a tuple: walked, enumerated, made a tuple or a list of; isinstance of data. -/
namespace Gk
open PySem PySem.Spec PyProof.Rows L2
/-- at a a list or a tuple of xs -/
def SqS (K : PySem.W.Frag) (H : Hp) (a : Addr) (xs : List V) : Prop := SqL K H a xs ∨ SqT K H a xs
theorem SqS.same {K : PySem.W.Frag} {H H' : Hp} {a : Addr} {xs : List V} (h : SqS K H a xs) (e : Same H H') : SqS K H' a xs := h.elim (fun z => .inl (e.seq z)) fun z => .inr (sqT_same e z)
/-- the tuple at a, each item in a new pair -/
def Iet (K : PySem.W.Frag) (a : Addr) : It where
  go := fun i H => ∃ (xs : List V) (x : V), SqT K H a xs ∧ xs[i]? = some x
  yld := fun i H v H' => ∃ T x, v = .ref T ∧ H T = none ∧ H' = upd H T (.tup [.int (i : Nat), x]) ∧ ∀ xs, SqT K H a xs → xs[i]? = some x
  stop := fun i H => ∃ xs : List V, SqT K H a xs ∧ xs.length ≤ i
theorem turn_enumT {P : Program} {w : World} {K : PySem.W.Frag} {es : List Expr} {m : Nat} {tp : Pos} (a c r : Addr) :
    Turn P w K (.Tuple es m tp) (Iet K a) [c, r] c (fun i h => (∃ old, IsEnum h c r ((i : Nat) : Int) old) ∧ h.IsTupleIter r a i ∧ c ≠ r) where
  mem := List.mem_cons_self
  obj := fun i h st b hb => by
    obtain ⟨⟨old, h1⟩, ⟨o, h2, _, h3⟩, _⟩ := st
    rcases (show b = c ∨ b = r by simpa using hb) with z | z
    · subst z
      exact ⟨_, h1, fun v q => nomatch q⟩
    · subst z
      exact ⟨o, h2, fun v q => by rw [h3] at q; cases q⟩
  keep := fun i h h' st k => by
    obtain ⟨⟨old, h1⟩, ⟨o, h2, h3⟩, ne⟩ := st
    exact ⟨⟨old, k c (by simp) _ h1⟩, ⟨o, k r (by simp) _ h2, h3⟩, ne⟩
  item := by
    intro X hP hw hK hc i pins s σ H E I hf st hg
    subst hP hw hK
    obtain ⟨⟨old, h1⟩, h2, ne⟩ := st
    obtain ⟨xs, x, hq, hx⟩ := hg
    obtain ⟨its, rv, p, _⟩ := I.tuple hq
    obtain ⟨u, hu, ru⟩ := rv.get hx
    have l1 : c < s.heap.objs.size := Heap.lt_size h1
    have l2 : r < s.heap.objs.size := by
      obtain ⟨_, q, _⟩ := h2
      exact Heap.lt_size q
    refine pyNext_enum_tup h1 h2 (show s.heap.IsTuple a its.toArray from p) (v := u) (by simpa using hu) ne fun g c1 r1 t1 _ kp => ?_
    refine ⟨_, rfl, wpAny_letOwnedTupleGo_enum (s := { s with heap := g, toks := s.toks + 1 }) c1 fun g2 c2 sb => ?_⟩
    have t2 : g2.get? s.heap.objs.size = some { cls := .type "tuple", data := .seq #[.int i s.toks, u] } := (sb.2 _ (Nat.ne_of_gt l1)).trans t1
    have new : ObjOk X.prog X.w (upd H s.heap.objs.size (.tup [.int (i : Nat), x])) g2 s.heap.objs.size (.tup [.int (i : Nat), x]) :=
      ⟨(by decide : 2 ≤ sizeLine), [.int i s.toks, u], .cons ⟨_, rfl⟩ (.cons ru .nil), ⟨_, t2, rfl, _, rfl⟩⟩
    have J : Inv X pins σ (upd H s.heap.objs.size (.tup [.int (i : Nat), x])) { s with heap := g2, toks := s.toks + 1 } :=
      Inv.turnedNew (ch := [c, r]) I (fun b ob hb q => (sb.2 b (fun z => hb (by simp [z]))).trans (kp b ob (fun z => hb (by simp [z])) (fun z => hb (by simp [z])) q)) hf (Nat.le_refl _) new
    refine ⟨.ref s.heap.objs.size, _, J, rfl, ⟨_, x, rfl, I.hok.fresh (Nat.le_refl _), rfl, fun ys hy => by rw [I.tuple_inj hy hq]; exact hx⟩, ⟨⟨u, ?_⟩, ?_, ne⟩, fun b hb => ?_⟩
    · rw [show ((i + 1 : Nat) : Int) = (i : Int) + 1 by omega]
      exact c2
    · obtain ⟨o, q1, q2⟩ := r1
      exact ⟨o, (sb.2 r (Ne.symm ne)).trans q1, q2⟩
    · have lb : b < s.heap.objs.size := by
        rcases (show b = c ∨ b = r by simpa using hb) with z | z
        · rw [z]; exact l1
        · rw [z]; exact l2
      rw [upd_ne (Nat.ne_of_lt lb)]
      exact (hf b hb).1
  done := by
    intro X hP hw hK hc i pins s σ H E I hf st hg
    subst hP hw hK
    obtain ⟨⟨old, h1⟩, h2, ne⟩ := st
    obtain ⟨xs, hq, hx⟩ := hg
    obtain ⟨its, rv, p, _⟩ := I.tuple hq
    obtain ⟨f0, f1, _, f3, f4, f5⟩ := hf r (by simp)
    have hl := rv.length
    exact pyNext_enum_tup_end (I.ok.hd hc) h1 h2 (show s.heap.IsTuple a its.toArray from p) (by simp; omega) fun g eb => ⟨rfl, I.turned (t' := s.toks) (fun b o hb q => eb b o hb q) f0 f1 f3 f4 f5⟩
  self := fun A i s Q E st h => by
    obtain ⟨⟨_, h1⟩, _⟩ := st
    exact wpAny_pyIter_enum h1 h
/-- enumerate(xs), xs a list or a tuple -/
def iEnumS (K : PySem.W.Frag) (ta : TA) : TI := fun σ H R => ta σ H fun vs H1 => ∃ a xs, vs = [.ref a] ∧ ((SqL K H1 a xs ∧ R (Ite K a) H1) ∨ (SqT K H1 a xs ∧ R (Iet K a) H1))
theorem pi_enumS {X : Cx} {e : Expr} {ta : TA} {p pos tp : Pos} {es : List Expr} {m : Nat} (hg : Gl X "enumerate") (hm : X.mg "enumerate" = none) (ha : PA X [e] ta) (hs : starEach [e] X.env = [(false, eval e X.env)] := by rfl) :
    PI X (.Tuple es m tp) (.Call (.Name "enumerate" p) [e] [] pos) (iEnumS X.K ta) := by
  refine ⟨fun pins s σ H R I h => ?_⟩
  refine Call_ (ld_blt I hg hm boot_enumerate (PyProof.Rows.callWith_type1 (thn (ha.run pos pins s σ H _ I h) fun us s1 z => ?_) hs rfl))
  obtain ⟨vs, H1, I1, r1, a, xs, ex, z⟩ := z
  subst ex
  cases r1 with
  | cons r rr =>
    cases rr
    cases r
    have two : ∀ b : Addr, b ∈ [s1.heap.objs.size + 1, s1.heap.objs.size] → FpOk X pins H1 b := fun b hb => by
      have hle : s1.heap.objs.size ≤ b := by
        rcases (show b = s1.heap.objs.size + 1 ∨ b = s1.heap.objs.size by simpa using hb) with q | q
        · rw [q]; exact Nat.le_add_right _ _
        · rw [q]; exact Nat.le_refl _
      exact I1.fpOk hle (I1.hok.fresh hle)
    rcases z with ⟨hq, q⟩ | ⟨hq, q⟩
    · obtain ⟨its, rv, p', _⟩ := I1.list hq
      refine call_enumerate_list p'.isList fun g he hit _ hk => wpAny_pyIter_enum he ?_
      exact ⟨s1.heap.objs.size + 1, [s1.heap.objs.size + 1, s1.heap.objs.size], _, _, H1, rfl, I1.kept (t' := s1.toks) hk, turn_enum a (s1.heap.objs.size + 1) s1.heap.objs.size, ⟨⟨.none, he⟩, hit, Nat.succ_ne_self _⟩, two, q⟩
    · obtain ⟨its, rv, p', _⟩ := I1.tuple hq
      refine call_enum_tup (show s1.heap.IsTuple a its.toArray from p') fun g he hit _ hk => wpAny_pyIter_enum he ?_
      exact ⟨s1.heap.objs.size + 1, [s1.heap.objs.size + 1, s1.heap.objs.size], _, _, H1, rfl, I1.kept (t' := s1.toks) hk, turn_enumT a (s1.heap.objs.size + 1) s1.heap.objs.size, ⟨⟨.none, he⟩, hit, Nat.succ_ne_self _⟩, two, q⟩
/-- a walk over a list or a tuple -/
def iSeqS (K : PySem.W.Frag) (te : TE) : TI := fun σ H R => te σ H fun v H1 => ∃ a xs, v = .ref a ∧ ((SqL K H1 a xs ∧ R (Itl K a) H1) ∨ (SqT K H1 a xs ∧ R (Itt K a) H1))
theorem pi_seqS {X : Cx} {tg e : Expr} {te : TE} (he : PE X e te) : PI X tg e (iSeqS X.K te) := by
  refine ⟨fun pins s σ H R I h => ?_⟩
  refine thn (he.run pins s σ H _ I h) fun v s1 z => ?_
  obtain ⟨x, H1, I1, r1, a, xs, ex, z⟩ := z
  subst ex
  cases r1
  have one : ∀ b : Addr, b ∈ [s1.heap.objs.size] → FpOk X pins H1 b := fun b hb => by
    have q : b = s1.heap.objs.size := by simpa using hb
    subst q
    exact I1.fpOk (Nat.le_refl _) (I1.hok.fresh (Nat.le_refl _))
  rcases z with ⟨hq, q⟩ | ⟨hq, q⟩
  · obtain ⟨its, rv, p, _⟩ := I1.list hq
    exact wpAny_pyIter_list p.isList ⟨s1.heap.objs.size, [s1.heap.objs.size], _, _, H1, rfl, I1.kept (t' := s1.toks) fun b o e => Heap.get?_push_of_some _ e, turn_list a _, ⟨_, Heap.get?_push_size _ rfl, rfl, rfl⟩, one, q⟩
  · obtain ⟨its, rv, p, _⟩ := I1.tuple hq
    exact wpAny_pyIter_tuple (show s1.heap.IsTuple a its.toArray from p) ⟨s1.heap.objs.size, [s1.heap.objs.size], _, _, H1, rfl, I1.kept (t' := s1.toks) fun b o e => Heap.get?_push_of_some _ e, turn_tuple a _, ⟨_, Heap.get?_push_size _ rfl, rfl, rfl⟩, one, q⟩
theorem walk_enumT {K : PySem.W.Frag} {a : Addr} {xs : List V} : Walk (Iet K a) xs.length (fun H => SqT K H a xs) (YPair (fun i => some (.int (i : Nat))) (fun i => xs[i]?)) := by
  refine ⟨fun i _ hi q => ⟨xs, xs[i], q, by simp [hi]⟩, fun _ q => ⟨xs, q, Nat.le_refl _⟩, fun i H v H' _ q y => ?_⟩
  obtain ⟨T, x, h1, h2, h3, h4⟩ := y
  exact ⟨T, .int (i : Nat), x, h1, h2, h3, rfl, h4 xs q⟩
/-! ### isinstance of data -/
def isT (T a : String) : Bool := decide (a = T) || (decide (T = "int") && decide (a = "bool"))
def isD (T : String) (d : PyData) : Bool := isT T (tyD d)
/-- the built-in types that are asked for -/
def okT (T : String) : Bool := ["int", "bool", "list", "tuple", "str"].contains T
theorem kit_tab : ∀ a ∈ ["NoneType", "bool", "int", "str", "list", "tuple", "dict"], ∀ T ∈ ["int", "bool", "list", "tuple", "str"], kitB a T = some (isT T a) := by decide +kernel
theorem kit_d {K : PySem.W.Frag} {T : String} (h : okT T = true) (d : PyData) : PySem.W.kitOne K (.type (tyD d)) (.type T) = some (isD T d) :=
  kit_ty (kit_tab (tyD d) (by cases d <;> simp [tyD]) T (by unfold okT at h; simpa using h))
theorem kit_ds {K : PySem.W.Frag} (d : PyData) : ∀ (Ts : List String), (∀ T ∈ Ts, okT T = true) → PySem.W.kitAny K (.type (tyD d)) (Ts.map Value.type) = some (Ts.any fun T => isD T d)
  | [], _ => kitAny_nil
  | T :: Ts, h => kitAny_cons (kit_d (h T List.mem_cons_self) d) (fun z => by
      rw [List.any_cons, z, Bool.false_or]
      exact kit_ds d Ts fun U hU => h U (List.mem_cons_of_mem _ hU)) fun z => by rw [List.any_cons, z, Bool.true_or]
def rIsD (K : PySem.W.Frag) : List V → Hp → VK → Prop := fun xs H Q => ∃ (x : V) (d : PyData) (T : String), xs = [x, .ty T] ∧ okT T = true ∧ Dq K H x d ∧ Q (.bl (isD T d)) H
theorem call_isD {X : Cx} : CallR X (.builtin "isinstance") (rIsD X.K) := fun pins s σ H xs us Q I r h => by
  obtain ⟨x, d, T, e, ok, hd, q⟩ := h
  exact call_isi pins s σ H xs us Q I r ⟨x, .ty T, _, _, _, e, .ty T, tyx_of hd, kit_d ok d, q⟩
def rIsDT (K : PySem.W.Frag) : List V → Hp → VK → Prop := fun xs H Q => ∃ (x : V) (tp : Addr) (d : PyData) (Ts : List String), xs = [x, .ref tp] ∧ H tp = some (.tup (Ts.map V.ty)) ∧ (∀ T ∈ Ts, okT T = true) ∧ Dq K H x d ∧ Q (.bl (Ts.any fun T => isD T d)) H
theorem clsV_all : ∀ Ts : List String, Paired ClsV (Ts.map V.ty) (Ts.map Value.type)
  | [] => .nil
  | T :: Ts => .cons (.ty T) (clsV_all Ts)
theorem call_isDT {X : Cx} : CallR X (.builtin "isinstance") (rIsDT X.K) := fun pins s σ H xs us Q I r h => by
  obtain ⟨x, tp, d, Ts, e, ht, ok, hd, q⟩ := h
  exact call_isiT pins s σ H xs us Q I r ⟨x, tp, _, _, _, _, e, ht, clsV_all Ts, tyx_of hd, kit_ds d Ts ok, q⟩
end Gk
set_option Elab.async false
set_option linter.all false
set_option maxRecDepth 100000
set_option maxHeartbeats 1000000
/-! max of whole numbers, of a list or a tuple; with a default. -/
namespace Gk
open PySem PySem.Spec PyProof.Rows L2
theorem reads_ints {h : Heap} : ∀ {ns : List Int} {us : List Value}, Vals (ns.map V.int) us → ∃ as, ReadsAll h us (ns.map PyData.int) as
  | [], _, r => by
    cases r
    exact ⟨_, .nil⟩
  | n :: ns, _, r => by
    cases r with
    | cons a b =>
      obtain ⟨t, rfl⟩ := a
      obtain ⟨as, z⟩ := reads_ints (ns := ns) b
      exact ⟨_, .cons (.int n t) z⟩
theorem alike_ints (ns : List Int) : PySem.W.AlikeAll (ns.map PyData.int) := by
  refine ⟨fun x hx y hy => ?_, fun x hx => ?_⟩
  · obtain ⟨i, _, rfl⟩ := List.mem_map.mp hx
    obtain ⟨j, _, rfl⟩ := List.mem_map.mp hy
    simp [PySem.W.alike]
  · obtain ⟨i, _, rfl⟩ := List.mem_map.mp hx
    exact fun z => nomatch z
theorem depth_ints : ∀ ns : List Int, PyData.depthAll (ns.map PyData.int) = 0
  | [] => by simp only [List.map_nil, PyData.depthAll]
  | n :: ns => by
    simp only [List.map_cons, PyData.depthAll, PyData.depth, depth_ints ns]
    rfl
/-- max(xs) of whole numbers, at least one -/
def rMaxS (K : PySem.W.Frag) : List V → Hp → VK → Prop := fun vs H Q => ∃ (a : Addr) (n : Int) (ns : List Int), vs = [V.ref a] ∧ SqS K H a ((n :: ns).map V.int) ∧ Q (.int (ns.foldl max n)) H
theorem cr_maxS {X : Cx} (hc : X.calm = true) (hu : X.A.units + 64 < cLine) : CallR X (.builtin "max") (rMaxS X.K) := by
  intro pins s σ H vs us Q I r h
  obtain ⟨a, n, ns, rfl, hs, q⟩ := h
  rw [Vals.ref1 r]
  have fin : ∀ (v : Value) (h' : Heap) (tk : Nat) (bs : List Addr), Reads h' v (PySem.W.maxD (.int n) (ns.map PyData.int)) bs → (∀ b o, s.heap.get? b = some o → h'.get? b = some o) → EP X pins σ Q v { s with heap := h', toks := tk } := fun v h' tk bs z k => by
    rw [PySem.W.maxD_ints] at z
    cases z
    exact ⟨.int _, H, I.kept (t' := tk) k, ⟨_, rfl⟩, q⟩
  have dp : PyData.depthAll (PyData.int n :: ns.map PyData.int) = 0 := depth_ints (n :: ns)
  rcases hs with hs | hs
  · obtain ⟨its, rv, hl, _⟩ := I.list hs
    obtain ⟨as, ra⟩ := reads_ints (h := s.heap) (ns := n :: ns) rv
    exact PySem.W.max_list_data (I.ok.hd hc) hl.isList ra (alike_ints (n :: ns)) (by rw [dp]; omega) fun i v h' tk bs _ z k => fin v h' tk bs z k
  · obtain ⟨its, rv, hl, _⟩ := I.tuple hs
    obtain ⟨as, ra⟩ := reads_ints (h := s.heap) (ns := n :: ns) rv
    exact PySem.W.max_tuple_data (I.ok.hd hc) (show s.heap.IsTuple a its.toArray from hl) ra (alike_ints (n :: ns)) (by rw [dp]; omega) fun i v h' tk bs _ z k => fin v h' tk bs z k
/-- max(xs, default=d) of whole numbers -/
def maxI (d : Int) : List Int → Int
  | [] => d
  | n :: ns => ns.foldl max n
def rMaxF (K : PySem.W.Frag) : List V → List V → Hp → VK → Prop := fun vs ks H Q => ∃ (a : Addr) (ns : List Int) (d : Int), vs = [V.ref a] ∧ ks = [.int d] ∧ SqS K H a (ns.map V.int) ∧ Q (.int (maxI d ns)) H
theorem cr_maxF {X : Cx} (hc : X.calm = true) (hu : X.A.units + 64 < cLine) : CallRK X (.builtin "max") [("default" : Str)] (rMaxF X.K) := by
  intro pins s σ H vs ks us ws Q I r rk h
  obtain ⟨a, ns, d, rfl, rfl, hs, q⟩ := h
  rw [Vals.ref1 r]
  obtain ⟨u, rfl, ru⟩ := vals1 rk
  have fin : ∀ (y : PyData) (ys : List PyData) (v : Value) (h' : Heap) (tk : Nat) (bs : List Addr), ns.map PyData.int = y :: ys → Reads h' v (PySem.W.maxD y ys) bs → (∀ b o, s.heap.get? b = some o → h'.get? b = some o) → EP X pins σ Q v { s with heap := h', toks := tk } := fun y ys v h' tk bs e z k => by
    cases ns with
    | nil => cases e
    | cons n ns =>
      injection e with e1 e2
      subst e1 e2
      rw [PySem.W.maxD_ints] at z
      cases z
      exact ⟨.int _, H, I.kept (t' := tk) k, ⟨_, rfl⟩, q⟩
  have nil : ns.map PyData.int = [] → ∀ (h' : Heap) (tk : Nat), (∀ b o, s.heap.get? b = some o → h'.get? b = some o) → EP X pins σ Q u { s with heap := h', toks := tk } := fun e h' tk k => by
    cases ns with
    | nil => exact ⟨.int d, H, I.kept (t' := tk) k, ru, q⟩
    | cons n ns => cases e
  have dp := depth_ints ns
  show wpAny _ _ (call (.builtin "max") _ [(("default" : Str), u)]) _ _ _
  rcases hs with hs | hs
  · obtain ⟨its, rv, hl, _⟩ := I.list hs
    obtain ⟨as, ra⟩ := reads_ints (h := s.heap) (ns := ns) rv
    exact PySem.W.max_list_default (I.ok.hd hc) hl.isList ra (alike_ints ns) (by rw [dp]; omega) nil fun y ys i v h' tk bs e _ z k => fin y ys v h' tk bs e z k
  · obtain ⟨its, rv, hl, _⟩ := I.tuple hs
    obtain ⟨as, ra⟩ := reads_ints (h := s.heap) (ns := ns) rv
    exact PySem.W.max_tuple_default (I.ok.hd hc) (show s.heap.IsTuple a its.toArray from hl) ra (alike_ints ns) (by rw [dp]; omega) nil fun y ys i v h' tk bs e _ z k => fin y ys v h' tk bs e z k
end Gk
set_option Elab.async false
set_option linter.all false
set_option maxRecDepth 100000
set_option maxHeartbeats 1000000
namespace Gk
open PySem PySem.Spec PyProof.Rows L2
/-- what a for asks of its walk -/
abbrev RW (g : TG) (tb : TS) (D : Ends) (σ : L2.St) (J : It) (H : Hp) : Prop :=
  ∃ W : Nat → Nat → L2.St → Hp → Prop, (∃ m, W 0 m σ H) ∧ ∀ i m σ H, W i m σ H →
      (J.stop i H ∧ D.nx σ H) ∨ (J.go i H ∧ ∃ N : L2.St → Hp → Prop, (∀ σ' H', N σ' H' → ∃ m', m' < m ∧ W (i + 1) m' σ' H') ∧ ∀ x H', J.yld i H x H' → g x σ H' fun σ2 H2 => tb { D with nx := N, ct := N, bk := D.nx } σ2 H2)
section
variable {K : PySem.W.Frag} {b : Addr} {xs : List V} {g : TG} {tb : TS} {D : Ends} {σ : L2.St} {H : Hp}
/-- for i, x in enumerate(xs), xs a list or a tuple -/
theorem for_enumS (hq : SqS K H b xs) (Pv : Nat → L2.St → Hp → Prop) (h0 : Pv 0 σ H) (hK : ∀ i σ H', i ≤ xs.length → Pv i σ H' → Same H H')
    (hs : ∀ (i : Nat) (x : V) (T : Addr) (σ : L2.St) (H' : Hp), xs[i]? = some x → Pv i σ H' → H' T = none → g (.ref T) σ (upd H' T (.tup [.int (i : Nat), x])) fun σ2 H2 => tb { D with nx := Pv (i + 1), ct := Pv (i + 1), bk := D.nx } σ2 H2)
    (hd : ∀ σ H', Pv xs.length σ H' → D.nx σ H') : (SqL K H b xs ∧ RW g tb D σ (Ite K b) H) ∨ (SqT K H b xs ∧ RW g tb D σ (Iet K b) H) := by
  have turn : ∀ (i : Nat) (v : V) (σ : L2.St) (H1 H2 : Hp), i < xs.length → Pv i σ H1 → YPair (fun i => some (V.int (i : Nat))) (fun i => xs[i]?) i H1 v H2 → g v σ H2 fun σ2 H3 => tb { D with nx := Pv (i + 1), ct := Pv (i + 1), bk := D.nx } σ2 H3 := by
    rintro i v σ H1 H2 hi p ⟨T, x, y, rfl, hT, rfl, e1, e2⟩
    have e := Option.some.inj e1
    subst e
    exact hs i y T σ H1 e2 p hT
  rcases hq with hq | hq
  · exact .inl ⟨hq, for_it walk_enum Pv h0 (fun i σ H' hi p => (hK i σ H' hi p).seq hq) turn hd⟩
  · exact .inr ⟨hq, for_it walk_enumT Pv h0 (fun i σ H' hi p => sqT_same (hK i σ H' hi p) hq) turn hd⟩
/-- for x in xs, xs a list or a tuple -/
theorem for_seqS (hq : SqS K H b xs) (Pv : Nat → L2.St → Hp → Prop) (h0 : Pv 0 σ H) (hK : ∀ i σ H', i ≤ xs.length → Pv i σ H' → SqS K H' b xs)
    (hs : ∀ (i : Nat) (x : V) (σ : L2.St) (H' : Hp), xs[i]? = some x → Pv i σ H' → g x σ H' fun σ2 H2 => tb { D with nx := Pv (i + 1), ct := Pv (i + 1), bk := D.nx } σ2 H2)
    (hd : ∀ σ H', Pv xs.length σ H' → D.nx σ H') (hL : (∃ H0, SqL K H0 b xs ∧ ∀ i σ H', i ≤ xs.length → Pv i σ H' → SqL K H' b xs) ∨ ∃ H0, SqT K H0 b xs ∧ ∀ i σ H', i ≤ xs.length → Pv i σ H' → SqT K H' b xs) :
    (SqL K H b xs ∧ RW g tb D σ (Itl K b) H) ∨ (SqT K H b xs ∧ RW g tb D σ (Itt K b) H) := by
  have turn : ∀ (i : Nat) (v : V) (σ : L2.St) (H1 H2 : Hp), i < xs.length → Pv i σ H1 → YAt xs i H1 v H2 → g v σ H2 fun σ2 H3 => tb { D with nx := Pv (i + 1), ct := Pv (i + 1), bk := D.nx } σ2 H3 := by
    rintro i v σ H1 H2 hi p ⟨rfl, e2⟩
    exact hs i v σ _ e2 p
  rcases hL with ⟨_, _, k⟩ | ⟨_, _, k⟩
  · exact .inl ⟨k 0 σ H (Nat.zero_le _) h0, for_it walk_list Pv h0 k turn hd⟩
  · exact .inr ⟨k 0 σ H (Nat.zero_le _) h0, for_it walk_tup Pv h0 k turn hd⟩
end
/-- what a comprehension asks of its walk -/
abbrev RL (g : TG) (tt : TT) (te : TE) (vs : List Nat) (σ : L2.St) (Q : VK) (J : It) (H1 : Hp) : Prop :=
  ∀ D, H1 D = none → ∃ W : Nat → Nat → Hp → Prop, (∃ m, W 0 m (upd H1 D (.lst []))) ∧ ∀ i m H, W i m H →
    (J.stop i H ∧ Q (.ref D) H) ∨ (J.go i H ∧ ∃ Nx : Hp → Prop, (∀ H', Nx H' → ∃ m', m' < m ∧ W (i + 1) m' H') ∧ ∀ x H', J.yld i H x H' → g x (wipe σ vs) H' fun σ2 H2 => wipe σ2 vs = wipe σ vs ∧ tt σ2 H2 fun b H3 =>
      if b = true then te σ2 H3 fun y H4 => ∃ acc, H4 D = some (.lst acc) ∧ acc.length < sizeLine ∧ Nx (upd H4 D (.lst (acc ++ [y]))) else Nx H3)
section
variable {K : PySem.W.Frag} {b : Addr} {xs : List V} {tt : TT} {te : TE} {vs : List Nat} {j : Nat} {σ : L2.St} {H1 : Hp} {Q : VK} {J : It}
/-- F i: what the first i items give -/
theorem lc_walk {Y : Nat → Hp → V → Hp → Prop} (F : Nat → List V) (f0 : F 0 = []) (fl : ∀ i, i ≤ xs.length → (F i).length ≤ i) (hn : xs.length ≤ 1000) (hw : ∀ x, wipe ((wipe σ vs).set j (some x)) vs = wipe σ vs)
    (w : Walk J xs.length (fun H => Same H1 H) (YAt xs))
    (he : ∀ (i : Nat) (x : V) (H' : Hp) (R : VK) (N : Hp → Prop), xs[i]? = some x → Same H1 H' → (∀ H4 y, Same H' H4 → F (i + 1) = F i ++ [y] → R y H4) → (∀ H3, Same H' H3 → F (i + 1) = F i → N H3) →
      tt ((wipe σ vs).set j (some x)) H' fun b H3 => if b = true then te ((wipe σ vs).set j (some x)) H3 R else N H3)
    (k : ∀ (D : Addr) (H' : Hp), Same H1 H' → H1 D = none → H' D = some (.lst (F xs.length)) → Q (.ref D) H') : RL (gName j) tt te vs σ Q J H1 := fun D hD => by
  refine lc_it w (fun i H => Same H1 H ∧ H D = some (.lst (F i))) ⟨same_upd' hD, by rw [f0]; exact upd_same⟩ (fun i H _ z => z.1) ?_ fun H z => k D H z.1 hD z.2
  rintro i x H H' hi ⟨s, hd⟩ ⟨rfl, hx⟩
  refine ⟨hw _, he i x _ _ _ hx s (fun H4 y s4 e => ⟨F i, s4 _ _ hd, ?_, fun c o z => ?_, ?_⟩) fun H3 s3 e => ⟨s.trans s3, by rw [e]; exact s3 _ _ hd⟩⟩
  · exact small1000 (Nat.le_trans (fl i (Nat.le_of_lt hi)) (by omega))
  · rw [upd_ne (ne_of_none z hD)]
    exact s4 c o (s c o z)
  · rw [upd_same, e]
theorem lc_seqS (F : Nat → List V) (f0 : F 0 = []) (fl : ∀ i, i ≤ xs.length → (F i).length ≤ i) (hn : xs.length ≤ 1000) (hw : ∀ x, wipe ((wipe σ vs).set j (some x)) vs = wipe σ vs) (hq : SqS K H1 b xs)
    (he : ∀ (i : Nat) (x : V) (H' : Hp) (R : VK) (N : Hp → Prop), xs[i]? = some x → Same H1 H' → (∀ H4 y, Same H' H4 → F (i + 1) = F i ++ [y] → R y H4) → (∀ H3, Same H' H3 → F (i + 1) = F i → N H3) →
      tt ((wipe σ vs).set j (some x)) H' fun b H3 => if b = true then te ((wipe σ vs).set j (some x)) H3 R else N H3)
    (k : ∀ (D : Addr) (H' : Hp), Same H1 H' → H1 D = none → H' D = some (.lst (F xs.length)) → Q (.ref D) H') :
    (SqL K H1 b xs ∧ RL (gName j) tt te vs σ Q (Itl K b) H1) ∨ (SqT K H1 b xs ∧ RL (gName j) tt te vs σ Q (Itt K b) H1) := by
  rcases hq with hq | hq
  · exact .inl ⟨hq, lc_walk (Y := YAt xs) F f0 fl hn hw (walk_list.mono (fun H s => Same.seq s hq) fun i H x H' _ _ y => y) he k⟩
  · exact .inr ⟨hq, lc_walk (Y := YAt xs) F f0 fl hn hw (walk_tup.mono (fun H s => sqT_same s hq) fun i H x H' _ _ y => y) he k⟩
/-- a comprehension over what stands in slot i -/
theorem lcS_ev {i : Nat} (hv : σ[i]? = some (some (.ref b))) (F : Nat → List V) (f0 : F 0 = []) (fl : ∀ i, i ≤ xs.length → (F i).length ≤ i) (hn : xs.length ≤ 1000) (hw : ∀ x, wipe ((wipe σ vs).set j (some x)) vs = wipe σ vs) (hq : SqS K H1 b xs)
    (he : ∀ (i : Nat) (x : V) (H' : Hp) (R : VK) (N : Hp → Prop), xs[i]? = some x → Same H1 H' → (∀ H4 y, Same H' H4 → F (i + 1) = F i ++ [y] → R y H4) → (∀ H3, Same H' H3 → F (i + 1) = F i → N H3) →
      tt ((wipe σ vs).set j (some x)) H' fun b H3 => if b = true then te ((wipe σ vs).set j (some x)) H3 R else N H3)
    (k : ∀ (D : Addr) (H' : Hp), Same H1 H' → H1 D = none → H' D = some (.lst (F xs.length)) → Q (.ref D) H') :
    tLc (iSeqS K (tVar i)) (gName j) tt te vs σ H1 Q :=
  ⟨_, hv, b, xs, rfl, lc_seqS F f0 fl hn hw hq he k⟩
end
end Gk
set_option Elab.async false
set_option linter.all false
set_option maxRecDepth 100000
set_option maxHeartbeats 1000000
/-! A for in a generator's body. -/
namespace Gk
open PySem PySem.Spec PyProof.Rows L2 GenW
section
variable {prog : Program} {w : World} {A : Around} {R : GenEnd} {Y : Protocol} {n : Nat} {s₀ : Shared} {fs : List Frame} {s : Shared} {env : Env}
/-- an exception on its way out of a loop's code -/
abbrev noted (env : Env) (e : Value) : Sem PySem.Fin := (do noteFrame e env; theTreesLotGoes e : Sem Unit).wrap (fun _ => .raise e) .raise id id
theorem seg_forLoop {target : Expr} {it : Value} {body : List Stmt}
    (h : wpAny (model prog w) (A.over (.forLoop target it body [] env) fs) (pyNext it) (fun r s1 => match r with
      | none => Seg (model prog w) A R Y n s₀ (.forLoop target it body [] env) (.pure (.again (.block [] env))) fs s1
      | some v => wpAny (model prog w) (A.over (.forLoop target it body [] env) fs) (letOwnedTupleGo target it v) (fun _ s2 =>
          wpAny (model prog w) (A.over (.forLoop target it body [] env) fs) (assign target env v) (fun _ s3 =>
            Seg (model prog w) A R Y n s₀ (.forLoop target it body [] env) ((execs body env).wrap (fun f => match f with
              | .next | .cont => .pure (.again (.forLoop target it body [] env))
              | .brk => .pure (.done .next)
              | .ret v => .pure (.done (.ret v))) (noted env) id id) fs s3)
            (fun x s' => Seg (model prog w) A R Y n s₀ (.forLoop target it body [] env) (noted env x) fs s') s2)
          (fun x s' => Seg (model prog w) A R Y n s₀ (.forLoop target it body [] env) (noted env x) fs s') s1)
      (fun x s' => Seg (model prog w) A R Y n s₀ (.forLoop target it body [] env) (noted env x) fs s') s) :
    Seg (model prog w) A R Y n s₀ (.forLoop target it body [] env) ((model prog w).den (.forLoop target it body [] env)) fs s := by
  show Seg _ A R Y n s₀ _ ((forTurn target it body [] env).onRaise (fun x => do noteFrame x env; theTreesLotGoes x)) fs s
  have e0 : (fun e => ((do noteFrame e env; theTreesLotGoes e : Sem Unit).bind fun _ => (.raise e : Sem PySem.Fin))) = noted env := by
    funext e
    rw [Sem.bind_eq_wrap]
  rw [Sem.onRaise_eq_wrap]
  simp only [forTurn]
  refine seg_bind_wrap (wpAny_standAt (seg_bind_wrap (wpAny_onRaise (wpAny_mono h (fun r s1 h1 => ?_) fun x s1 hx => wpAny_standAt ?_))))
  · cases r with
    | none => exact h1
    | some v =>
      refine seg_bind_wrap (wpAny_mono h1 (fun _ s2 h2 => ?_) fun x s' hx => ?_)
      · refine seg_bind_wrap (wpAny_mono h2 (fun _ s3 h3 => ?_) fun x s' hx => ?_)
        · rw [Sem.bind_eq_wrap', Sem.wrap_wrap]
          rw [Sem.wrap_congr (execs body env) _ _ (K' := fun f => match f with
              | .next | .cont => .pure (.again (.forLoop target it body [] env))
              | .brk => .pure (.done .next)
              | .ret v => .pure (.done (.ret v))) (H' := noted env) (fun f => by cases f <;> rfl) (fun e => by exact congrFun e0 e)]
          exact h3
        · exact (congrFun e0 x).symm ▸ hx
      · exact (congrFun e0 x).symm ▸ hx
  · exact (congrFun e0 x).symm ▸ hx
end
section
variable {X : Cx}
/-- for, something is handed out within -/
def tGFor (wi : TI) (g : TG) (tb : TGn) : TGn := fun D ys σ H => wi σ H fun J H1 => ∃ W : Nat → Nat → List V → L2.St → Hp → Prop, (∃ m, W 0 m ys σ H1) ∧ ∀ i m ys σ H, W i m ys σ H →
  (J.stop i H ∧ D.nx ys σ H) ∨ (J.go i H ∧ ∃ N : List V → L2.St → Hp → Prop, (∀ ys' σ' H', N ys' σ' H' → ∃ m', m' < m ∧ W (i + 1) m' ys' σ' H') ∧ ∀ x H', J.yld i H x H' → g x σ H' fun σ2 H2 => tb { D with nx := N, ct := N, bk := D.nx } ys σ2 H2)
theorem fp_other {pins pins' : List (Addr × Obj)} {H : Hp} {b : Addr} (h : FpOk X pins H b) (e : ∀ p ∈ pins', ∃ q ∈ pins, q.1 = p.1) : FpOk X pins' H b := by
  obtain ⟨f0, f1, f2, f3, f4, f5⟩ := h
  refine ⟨f0, f1, f2, f3, f4, fun p hp => ?_⟩
  rcases List.mem_append.mp hp with z | z
  · exact f5 p (List.mem_append_left _ z)
  · obtain ⟨q, hq, eq⟩ := e p z
    rw [← eq]
    exact f5 q (List.mem_append_right _ hq)
theorem gs_for {tg iter : Expr} {body : List Stmt} {wi : TI} {g : TG} {tb : TGn} {pos : Pos} (hp : PassesOwn (model X.prog X.w) X.A X.env X.xe) (hc : X.calm = true) (hi : PI X tg iter wi) (hg : PG X tg g) (hb : GSs X body tb)
    (hs : ∀ x, foldedSetIterable iter X.env x = pure x := by intro _; rfl) : GS X (.For tg iter body [] pos) (tGFor wi g tb) := by
  refine ⟨fun A S ip R n ys s₀ c fs K J gd lv s σ H D gc hn k hI ht => ?_⟩
  obtain ⟨acc, cc, r, I⟩ := hI
  rw [exec_For]
  refine seg_bind_wrap (wpAny_standAt (seg_bind_wrap ?_))
  rw [gc.over]
  refine wpAny_mono (hi.run _ s σ H _ I ht) (fun v s1 h1 => ?_) fun x s' hx => k.exc n s₀ x s' hx
  refine seg_bind_wrap (wpAny_of_eq (hs v) (seg_bind_wrap (wpAny_standAt (seg_bind_wrap (wpAny_holding ?_)))))
  rw [gc.over]
  refine wpAny_mono h1 (fun itv s2 h2 => ?_) fun x s' hx => k.exc n s₀ x s' hx
  obtain ⟨it, fp, tn, Jt, H2, e, I2, T, st2, f2, W, ⟨m0, w0⟩, turn⟩ := h2
  subst e
  refine seg_call fun p => ?_
  have gl := fun (kk : Result → Sem PySem.Fin) => gc_loop (k := kk) (c' := .forLoop tg (.ref it) body [] X.env) (l := lv []) (kp := []) (p := p) gc rfl rfl
  have glb := fun (kk : Result → Sem PySem.Fin) => gc_loop (k := kk) (c' := .block [] X.env) (l := lv []) (kp := []) (p := p) gc rfl rfl
  -- the iterator's things beside the list that is filled, whatever it holds
  have stat : ∀ {H' : Hp} (a' : Array Value) (c' : Nat), (∀ b ∈ fp, H' b = none) → ∀ b ∈ fp, FpOk X ((S, lstObj a' c') :: ip) H' b := fun a' c' hn b hb => by
    refine fp_other ⟨hn b hb, (f2 b hb).2⟩ fun p hp => ?_
    rcases List.mem_cons.mp hp with z | z
    · exact ⟨_, List.mem_cons_self, by rw [z]⟩
    · exact ⟨p, List.mem_cons_of_mem _ z, rfl⟩
  have nS : ∀ b ∈ fp, b ≠ S := fun b hb => fun z => (f2 b hb).2.2.2.2.2 (S, lstObj acc cc) (List.mem_append_right _ List.mem_cons_self) z.symm
  have loop : ∀ (m i n : Nat) (ys : List V) (s₀ s : Shared) (σ : L2.St) (H : Hp), n + ys.length = sizeLine → W i m ys σ H → GI X S ip ys σ H s → tn i s.heap → (∀ b ∈ fp, H b = none) →
      Seg (model X.prog X.w) A R (GY X S) n s₀ (.forLoop tg (.ref it) body [] X.env) ((model X.prog X.w).den (.forLoop tg (.ref it) body [] X.env))
        (.ret (fun r => ((match r with | .ok f => (.pure f : Sem Flow) | .error e => .raise e).onRaise (cameBack X.env)).wrap K J gd lv) none (gd false) (lv []) c p [] :: fs) s := by
    intro m
    induction m using Nat.strongRecOn with
    | ind m ih =>
      intro i n ys s₀ s3 σ3 H3 hn w3 hI3 st3 fr3
      have ee : ∀ (n : Nat) (s₀ : Shared) (x : Value) (s' : Shared), X.xe x s' → Seg (model X.prog X.w) A R (GY X S) n s₀ (.forLoop tg (.ref it) body [] X.env)
          (noted X.env x) (.ret (fun r => ((match r with | .ok f => (.pure f : Sem Flow) | .error e => .raise e).onRaise (cameBack X.env)).wrap K J gd lv) none (gd false) (lv []) c p [] :: fs) s' := fun n s₀ x s' hx => by
        refine seg_wrap ?_
        rw [(gl _).over]
        refine wpAny_bind (wpAny_mono (hp x s' hx) (fun _ s'' hcb => wpAny_theTreesLotGoes ?_) fun y s'' hcb => ?_)
        · exact seg_leaf (.error x) (seg_cameBack gc k hcb)
        · exact seg_leaf (.error y) (seg_cameBack gc k hcb)
      refine seg_forLoop ?_
      rw [(gl _).over]
      obtain ⟨acc3, cc3, r3, I3⟩ := hI3
      rcases turn i m ys σ3 H3 w3 with ⟨stop, qn⟩ | ⟨go, N, hN, step⟩
      · refine wpAny_mono (T.done X rfl rfl rfl hc i _ s3 σ3 H3 X.xe I3 (stat acc3 cc3 fr3) st3 stop) (fun r s4 hr => ?_) fun x s' hx => ee n s₀ x s' hx
        obtain ⟨hr, I4⟩ := hr
        subst hr
        refine seg_again rfl ?_
        show Seg _ _ _ _ _ _ _ (.pure (.done .next)) _ _
        exact seg_leaf (.ok .next) (k.ok n ys s₀ s4 .next hn ⟨σ3, H3, ⟨acc3, cc3, r3, I4⟩, qn⟩)
      · refine wpAny_mono (T.item X rfl rfl rfl hc i _ s3 σ3 H3 X.xe I3 (stat acc3 cc3 fr3) st3 go) (fun r s4 hr => ?_) fun x s' hx => ee n s₀ x s' hx
        obtain ⟨u, hr, h4⟩ := hr
        subst hr
        refine wpAny_mono h4 (fun _ s5 h5 => ?_) fun x s' hx => ee n s₀ x s' hx
        obtain ⟨x, H5, I5, r5, y5, st5, fr5⟩ := h5
        have I5' := I5.pinned (stat acc3 cc3 fr5) (T.obj _ _ st5)
        refine wpAny_mono (hg.run _ s5 σ3 H5 x u _ I5' r5 (step x H5 y5)) (fun _ s6 h6 => ?_) fun x s' hx => ee n s₀ x s' hx
        obtain ⟨σ6, H6, I6, q6⟩ := h6
        have again : ∀ {ys7 : List V} {s7 : Shared} {σ7 : L2.St} {H7 : Hp} (n7 : Nat) (s8 : Shared), n7 + ys7.length = sizeLine → GI X S (ip ++ pinsAt fp s5.heap) ys7 σ7 H7 s7 → N ys7 σ7 H7 → Seg (model X.prog X.w) A R (GY X S) n7 s8 (.forLoop tg (.ref it) body [] X.env) (.pure (.again (.forLoop tg (.ref it) body [] X.env)))
            (.ret (fun r => ((match r with | .ok f => (.pure f : Sem Flow) | .error e => .raise e).onRaise (cameBack X.env)).wrap K J gd lv) none (gd false) (lv []) c p [] :: fs) s7 := fun {ys7 s7 σ7 H7} n7 s8 hn7 hI7 hN7 => by
          obtain ⟨m', hm, w7⟩ := hN ys7 σ7 H7 hN7
          obtain ⟨acc7, cc7, r7, I7⟩ := hI7
          have pin7 : ∀ b ∈ fp, ∀ o, s5.heap.get? b = some o → s7.heap.get? b = some o ∧ H7 b = none := fun b hb o e => by
            have z := I7.pin (b, o) (List.mem_append_right _ (List.mem_cons_of_mem _ (List.mem_append_right _ (mem_pinsAt hb e))))
            exact ⟨z.1, z.2.1⟩
          refine seg_again rfl (ih m' hm (i + 1) n7 ys7 s8 s7 σ7 H7 hn7 w7 ⟨acc7, cc7, r7, I7.pins_of fun q hq => I7.pin q ?_⟩ (T.keep _ _ _ st5 fun b hb o e => (pin7 b hb o e).1) fun b hb => ?_)
          · rcases List.mem_cons.mp hq with z | z
            · exact List.mem_append_right _ (by rw [z]; exact List.mem_cons_self)
            · exact List.mem_append_right _ (List.mem_cons_of_mem _ (List.mem_append_left _ z))
          · obtain ⟨o, e, _⟩ := T.obj _ _ st5 b hb
            exact (pin7 b hb o e).2
        have gc' : GC X S (ip ++ pinsAt fp s5.heap) A (.forLoop tg (.ref it) body [] X.env) (.ret (fun r => ((match r with | .ok f => (.pure f : Sem Flow) | .error e => .raise e).onRaise (cameBack X.env)).wrap K J gd lv) none (gd false) (lv []) c p [] :: fs) id :=
          ⟨gc.pn, fun q hq => (List.mem_append.mp hq).elim (fun z => gc.ip q z) fun z => nS _ (of_pinsAt z).1, gc.apart, (gl _).over, (gl _).split, (gl _).guard, rfl⟩
        have drop : ∀ {ys7 : List V} {s7 : Shared} {σ7 : L2.St} {H7 : Hp}, GI X S (ip ++ pinsAt fp s5.heap) ys7 σ7 H7 s7 → GI X S ip ys7 σ7 H7 s7 := fun {ys7 s7 σ7 H7} hI7 => by
          obtain ⟨acc7, cc7, r7, I7⟩ := hI7
          refine ⟨acc7, cc7, r7, I7.pins_of fun q hq => I7.pin q ?_⟩
          refine List.mem_append_right _ ?_
          rcases List.mem_cons.mp hq with z | z
          · rw [z]; exact List.mem_cons_self
          · exact List.mem_cons_of_mem _ (List.mem_append_left _ z)
        refine hb.run A S (ip ++ pinsAt fp s5.heap) R n ys s₀ _ _ _ _ id id s6 σ6 H6 { D with nx := N, ct := N, bk := D.nx } gc' hn ⟨fun n' ys' s₀' s7 f hn' hs => ?_, fun n' s₀' x s7 hx => ee n' s₀' x s7 hx⟩ ⟨acc3, cc3, r3, I6⟩ q6
        cases f with
        | next =>
          obtain ⟨σ7, H7, I7, n7⟩ := hs
          exact again n' s₀' hn' I7 n7
        | cont =>
          obtain ⟨σ7, H7, I7, n7⟩ := hs
          exact again n' s₀' hn' I7 n7
        | brk =>
          obtain ⟨σ7, H7, I7, q7⟩ := hs
          exact seg_leaf (.ok .next) (k.ok n' ys' s₀' s7 .next hn' ⟨σ7, H7, drop I7, q7⟩)
        | ret v =>
          obtain ⟨x7, σ7, H7, I7, r7, q7⟩ := hs
          exact seg_leaf (.ok (.ret v)) (k.ok n' ys' s₀' s7 (.ret v) hn' ⟨x7, σ7, H7, drop I7, r7, q7⟩)
  exact loop m0 0 n ys s₀ s2 σ H2 hn w0 ⟨acc, cc, r, I2⟩ st2 fun b hb => (f2 b hb).1
end
section
variable {J : It} {n : Nat} {G : Hp → Prop} {Y : Nat → Hp → V → Hp → Prop}
/-- such a for over a walk: Pv by the turn, what is out, the slots and the heap -/
theorem gfor_it (w : Walk J n G Y) {g : TG} {tb : TGn} {D : GEnds} {ys : List V} {σ : L2.St} {H : Hp} (Pv : Nat → List V → L2.St → Hp → Prop) (h0 : Pv 0 ys σ H) (hG : ∀ i ys σ H, i ≤ n → Pv i ys σ H → G H)
    (hs : ∀ i x ys σ H H', i < n → Pv i ys σ H → Y i H x H' → g x σ H' fun σ2 H2 => tb { D with nx := Pv (i + 1), ct := Pv (i + 1), bk := D.nx } ys σ2 H2) (hd : ∀ ys σ H, Pv n ys σ H → D.nx ys σ H) :
    ∃ W : Nat → Nat → List V → L2.St → Hp → Prop, (∃ m, W 0 m ys σ H) ∧ ∀ i m ys σ H, W i m ys σ H →
      (J.stop i H ∧ D.nx ys σ H) ∨ (J.go i H ∧ ∃ N : List V → L2.St → Hp → Prop, (∀ ys' σ' H', N ys' σ' H' → ∃ m', m' < m ∧ W (i + 1) m' ys' σ' H') ∧ ∀ x H', J.yld i H x H' → g x σ H' fun σ2 H2 => tb { D with nx := N, ct := N, bk := D.nx } ys σ2 H2) := by
  refine ⟨fun i m ys σ H => m = n - i ∧ i ≤ n ∧ Pv i ys σ H, ⟨n, by simp, Nat.zero_le _, h0⟩, ?_⟩
  rintro i m ys σ H ⟨rfl, hi, p⟩
  have q := hG i ys σ H hi p
  by_cases hlt : i < n
  · exact .inr ⟨w.goes i H hlt q, Pv (i + 1), fun ys' σ' H' p' => ⟨n - (i + 1), by omega, rfl, hlt, p'⟩, fun x H' y => hs i x ys σ H H' hlt p (w.yields i H x H' hlt q y)⟩
  · have e : i = n := by omega
    subst e
    exact .inl ⟨w.stops H q, hd ys σ H p⟩
end
end Gk
set_option Elab.async false
set_option linter.all false
set_option maxRecDepth 100000
set_option maxHeartbeats 1000000
/-! Errors of one field raised, caught, let out of a generator that is drained. -/
namespace Gk
open PySem PySem.Spec PyProof.Rows L2 GenW
section
variable {K : PySem.W.Frag} {S C : Addr} {nm : Str}
theorem XC.exmS (x : XC K S C nm) : PySem.W.exmOne K (.ref C) (.ref C) = some true := by
  obtain ⟨cd, e, m, _⟩ := x.cls
  unfold PySem.W.exmOne PySem.W.kitCls
  rw [x.bex, if_pos (by rfl)]
  have i : (PySem.W.clsIn K C).isSome = true := by rw [e]; rfl
  dsimp only
  rw [i, x.typ, if_pos (by simp)]
  show PySem.W.mroIn K C (.ref C) = some true
  rw [x.mro]
  simp
theorem XC.xf (x : XC K S C nm) : XfC K C := ⟨x.ga, x.gg, x.bex, x.dct⟩
theorem XC.noStop (x : XC K S C nm) : PySem.W.subIn K (.ref C) (.type "StopIteration") = some false := by
  show PySem.W.mroIn K C (.type "StopIteration") = some false
  rw [x.mro]
  have e1 : (Value.type "StopIteration" == Value.ref C) = false := beq_eq_false_iff_ne.mpr fun z => nomatch z
  have e2 : (Value.type "StopIteration" == Value.ref S) = false := beq_eq_false_iff_ne.mpr fun z => nomatch z
  simp only [XM, List.contains_cons, e1, e2, Bool.false_or]
  decide
end
/-- an error of the class at C with f = v leaves -/
def Out (C : Addr) (f : Str) (v : V) (H : Hp) (E : XK) : Prop := ∀ d, H d = none → E (.ref C) (some d) (upd H d (.xd [(f, v)]))
def tMk1 (C : Addr) (f : Str) (ta : TA) : L2.St → Hp → XK → Prop := fun σ H E => ta σ H fun vs H1 => ∃ v, vs = [v] ∧ Out C f v H1 E
section
variable {X : Cx} {S C : Addr} {nm f x : Str} {e : Expr} {p pos pos2 : Pos} {ta : TA}
theorem del_upd {H : Hp} {a : Addr} {o : HO} (h : H a = none) : del (upd H a o) a = H := by
  funext b
  by_cases z : b = a
  · rw [z, del_same, h]
  · rw [del_ne z, upd_ne z]
/-- a reading of arguments made monotone -/
def taM (ta : TA) : TA := fun σ H R => ∃ T : List V → Hp → Prop, ta σ H T ∧ ∀ vs H1, T vs H1 → R vs H1
theorem pa_mono {es : List Expr} (h : PA X es ta) : PA X es (taM ta) :=
  ⟨fun pos pins s σ H Q I ⟨T, hT, k⟩ => thn (h.run pos pins s σ H T I hT) fun us s1 ⟨vs, H1, I1, r, q⟩ => ⟨vs, H1, I1, r, k vs H1 q⟩⟩
theorem pmk1 (E : E1 X.K X.mg S C nm f) (rm : Room 2 X.A) (hg : Gl X nm) (ha : PA X [e] ta) (hdb : (nm == ("__debug__" : Str)) = false := by decide)
    (hs : starEach [e] X.env = (false, eval e X.env) :: starEach [] X.env := by rfl) : PMk X (.Call (.Name nm p) [e] [] pos) (tMk1 C f ta) := by
  obtain ⟨fI, fd, iC, tI, hb, F⟩ := E.fi
  intro pins s σ H Q I h
  refine pmk_oex (CX := CX0) (sp := spI1 X.K C f) (dvs := []) E.xc.oex iC tI (F _ _ _) rm hb .nil (fun _ _ _ _ _ _ _ z => z.elim) hg E.gm (pa_mono ha) hdb hs rfl pins s σ H Q I ?_
  refine ⟨_, h, fun vs H1 hv => ?_⟩
  obtain ⟨v, rfl, q⟩ := hv
  refine ⟨(by show 1 ≤ 1000; decide), fun a hn => ⟨a, v, rfl, upd_same, fun d hd hne => ⟨rfl, d, [(f, v)], upd_same, ?_, ?_, ?_⟩⟩⟩
  · rw [upd_ne hne, upd_same]
  · rw [upd_ne hne] at hd
    exact hd
  · rw [upd_ne hne] at hd
    have e1 : upd (del (upd (upd (upd H1 a (exo a C none)) d (exd d [(f, v)])) a (exo a C (some d))) a) d (.xd [(f, v)]) = upd H1 d (.xd [(f, v)]) := by
      funext b
      by_cases z : b = d
      · rw [z, upd_same, upd_same]
      · rw [upd_ne z, upd_ne z]
        by_cases y : b = a
        · rw [y, del_same, hn]
        · rw [del_ne y, upd_ne y, upd_ne z, upd_ne y]
    rw [e1]
    exact q d hd
/-- list(g), what leaves the generator wished for at the slots as they stand -/
theorem pe_listGS {k : Nat} {tg : L2.St → TGen} {E : L2.St → XK} (h : ∀ σ, PGen X k e (tg σ) (E σ)) (hx : ∀ σ, PassesAt (L2.CX X.prog X.w) X σ (E σ)) (hns : ∀ σ, NoStop X.K (E σ)) (rm : Room (k + 3) X.A)
    (hg : Gl X "list") (hm : X.mg "list" = none) (hs : starEach [e] X.env = (false, eval e X.env) :: starEach [] X.env := by rfl) :
    PE X (.Call (.Name "list" p) [e] [] pos) (fun σ H Q => tListG (tg σ) σ H Q) := by
  constructor
  intro pins s σ H Q I hq
  refine wpAny_Call_Name_kw (ld_blt (u := .type "list") I hg hm (by decide +kernel) ?_ (by decide) (by decide))
  refine PyProof.Rows.callWith_type1 ?_ hs rfl
  rw [hs]
  show wpAny _ _ (spliced ((false, eval e X.env) :: backTo pos (starEach [] X.env))) _ _ s
  refine Calls.spliced_cons (thn ((h σ).run pins s σ H _ I hq) fun u s1 z => Calls.spliced_nil ?_)
  obtain ⟨H1, sc, ex, I1, hex, hG⟩ := z
  have le : sc.heap.objs.size ≤ s1.heap.objs.size := by
    obtain ⟨a, g, c, _, h1, h2, _⟩ := hG
    exact Nat.le_trans h1 (Nat.le_of_lt h2)
  refine call_list_new rm I1.ok.frames hG (fun S s' acc c H' ys z0 z1 z2 zl z3 z4 z5 z6 z7 z8 => ?_) fun er s' g hc => ?_
  · exact ⟨.ref S, upd H' S (.lst ys), I1.drained (Nat.le_trans le z0) zl z1 z2 hex z3 z4 z5 z6 z7, rfl, z8 S z7⟩
  · have kin : X.K.In s'.heap := by
      obtain ⟨a, B, H', cls, d, _, fl, _, ub, _⟩ := id hc
      refine I1.ok.mod.kin.keeps fun b o eb => ?_
      have old := I1.bs b o eb
      refine fl.1 b o (ub.keep b o old.1 old.2 fun hm => ?_)
      rcases List.mem_cons.mp (I1.stkSub b hm) with z | z
      · have h1 := Heap.lt_size eb
        rw [z] at h1
        exact absurd (Nat.lt_of_lt_of_le h1 (Nat.le_trans I1.ok.bsz I1.ok.above)) (Nat.lt_irrefl _)
      · exact I1.ok.nofr eb z
    refine ⟨notStop_of (hns σ) kin hc, hx σ pins H1 sc er _ I1 ?_⟩
    obtain ⟨a, B, H', cls, d, z1, fl, z2, ub, z3, z4, z5, z6⟩ := hc
    exact ⟨a, B, H', cls, d, z1, fl, z2, ub, z3, z4, allBare_setGen z5 rfl, z6⟩
end
end Gk
set_option Elab.async false
set_option linter.all false
set_option maxRecDepth 100000
set_option maxHeartbeats 1000000
/-! A def with defaults called with keywords, what it lets out wished for at the slots. -/
namespace Gk
open PySem PySem.Spec PyProof.Rows L2
section
variable {K : PySem.W.Frag} {x qual : Str} {params : Arguments} {body : List Stmt} {scope : Scope} {dvs : List V} {f : Addr} {fd : FuncData} {ps : List Str}
/-- every parameter is written, some by keywords -/
theorem kb_all (F : FunD K x qual params body scope dvs [] f fd) (n : Nat) (ks : List Str) (g : {α : Type} → List α → List α → List α) (hd : dvs ≠ [])
    (hrel : ∀ {vs : List V} {us : List Value} {zs : List V} {ws : List Value}, Vals vs us → Vals zs ws → Vals (g vs zs) (g us ws))
    (h : ∀ (T : Addr) (kV doc pm : Value) (an : Option Addr) (cdv ct : Value) (us its ws : List Value), us.length = n → its.length = dvs.length → ws.length = ks.length →
      ∃ k, bindArgs (PySem.W.fnOf x qual params body scope (.ref T) kV doc pm an cdv ct) ⟨us, ks.zip ws⟩ = seqItems? (.ref T) >>= k ∧ k (some its.toArray) = pure (ps.zip (g us ws))) :
    KBn K fd ps n ks (fun us ws => g us ws) (fun vs zs => g vs zs) := by
  obtain ⟨oc, od, dV, kV, doc, pm, an, cdv, ct, osl, rfl, lk, hcd, hD, hK⟩ := F.ex
  rcases hD with ⟨e, _⟩ | ⟨_, T, o, its, m, rfl, lT, oT, rT⟩
  · exact absurd e hd
  · refine ⟨fun s us ws X l1 l2 => BindsTo.of_looks fun M => ?_, hrel⟩
    obtain ⟨k, e1, e2⟩ := h T kV doc pm an cdv ct us its ws l1 rT.length.symm l2
    rw [e1]
    exact looks_items X lT oT (.of_pure e2)
end
def tCallNS (n m : Nat) (sp : Sp) (gV : List V → List V → List V) (E : L2.St → XK) (t tk : TA) : TE := fun σ H Q => t σ H fun vs H1 => tk σ H1 fun zs H2 => vs.length = n ∧ zs.length = m ∧ sp (gV vs zs) H2 Q (E σ)
section
variable {X : Cx} {CX : CXT} {k n : Nat} {f : Addr} {fd : FuncData} {ps ks : List Str} {sp : Sp} {E : L2.St → XK} {x : Str} {p pos : Pos} {e : Expr} {es : List Expr} {kws : List Keyword} {t tk : TA} {g : List Value → List Value → List Value} {gV : List V → List V → List V}
theorem pe_callNS (G : FnOk X.prog X.w X.K X.mg X.base CX k f fd ps sp) (rm : Room k X.A) (hg : Gl X x) (hm : X.mg x = some (.ref f)) (hk : PySem.W.keepIn X.K (.ref f) = true) (hb : KBn X.K fd ps n ks g gV) (hx : ∀ σ, PassesAt CX X σ (E σ))
    (ha : PA X (e :: es) t) (hkw : PK X kws tk) (hall : (backToKw pos (keywordEach kws X.env)).all (·.1.isSome) = true := by rfl) (hks : (backToKw pos (keywordEach kws X.env)).filterMap (·.1) = ks := by rfl)
    (hdb : (x == ("__debug__" : Str)) = false := by decide) (hs : starEach (e :: es) X.env = (false, eval e X.env) :: starEach es X.env := by rfl)
    (hpl : ((backTo pos (starEach (e :: es) X.env)).any (·.1) || (backToKw pos (keywordEach kws X.env)).any (·.1.isNone)) = false := by rfl) :
    PE X (.Call (.Name x p) (e :: es) kws pos) (tCallNS n ks.length sp gV E t tk) := by
  constructor
  intro pins s σ H Q I h
  refine wpAny_Call_Name_kw (ld_glob I hg hm ?_ hdb)
  refine PySem.W.callWith_KW (h₀ := X.base) I.ok.mod.kin hk hall (thn (ha.run pos pins s σ H _ I h) fun us s1 z => ?_) hpl hs
  obtain ⟨vs, H1, I1, r, q⟩ := z
  refine thn (hkw.run pos pins s1 σ H1 _ I1 q) fun ws s2 z => ?_
  obtain ⟨zs, H2, I2, rz, l1, l2, q2⟩ := z
  refine ⟨I2.kIn, ?_⟩
  rw [hks]
  have run := G.run X.A X.stack s2 H2 ⟨us, ks.zip ws⟩ (g us ws) (gV vs zs) Q (E σ) rm I2.env0 (hb.to s2 us ws I2.kIn (r.length.symm.trans l1) (rz.length.symm.trans l2)) (hb.rel r rz) q2
  refine wpAny_call (codeAny_mono run fun res s' hq => ?_)
  cases res with
  | error er => exact hx σ pins H2 s2 er s' I2 hq
  | ok fl => cases fl <;> first | exact I2.after hq | exact False.elim hq
end
/-- a caught error at the slots -/
theorem passB {X : Cx} {W : WX} (tk : Takes X W) (D : Value → Prop) (σ : L2.St) : PassesAt (L2.CX X.prog X.w) X σ (fun cls d H => D cls ∧ W cls d σ H) :=
  fun _ _ _ e s' I c => tk e s' (XE.of_call I (fun _ _ _ h => h.2) c)
end Gk
set_option Elab.async false
set_option linter.all false
set_option maxRecDepth 100000
set_option maxHeartbeats 1000000
/-! repr of data whose numbers have up to forty signs. -/
namespace Gk
open PySem PySem.Spec PyProof.Rows L2
structure Fine (n k : Nat) (d : PyData) : Prop where
  sh : d.showable = true
  dp : d.depth ≤ n
  lf : d.leavesShort 40 = true
  bk : d.bulk ≤ k
theorem Fine.up {n k m j : Nat} {d : PyData} (s : Fine n k d) (h1 : n ≤ m) (h2 : k ≤ j) : Fine m j d := ⟨s.sh, Nat.le_trans s.dp h1, s.lf, Nat.le_trans s.bk h2⟩
theorem Fine.fits {n k : Nat} {d : PyData} (s : Fine n k d) (hk : k ≤ 300000) : d.shown.length ≤ sizeLine := by
  have h := PyData.shown_le_bulk 40 (by decide) d s.lf
  have b := s.bk
  have h2 : (40 + 2) * d.bulk ≤ 42 * 300000 := Nat.mul_le_mul (by decide) (by omega)
  rw [sizeLine_eq]
  omega
theorem fine_all {n k : Nat} : ∀ ds : List PyData, (∀ d ∈ ds, Fine n k d) → PyData.showableAll ds = true ∧ PyData.depthAll ds ≤ n ∧ PyData.leavesShortAll 40 ds = true ∧ PyData.bulkAll ds ≤ (k + 1) * ds.length
  | [], _ => by simp [PyData.showableAll, PyData.depthAll, PyData.leavesShortAll, PyData.bulkAll]
  | d :: ds, h => by
    obtain ⟨a, b, c, e⟩ := fine_all ds fun x hx => h x (List.mem_cons_of_mem _ hx)
    have f := h d List.mem_cons_self
    refine ⟨?_, ?_, ?_, ?_⟩
    · simp only [PyData.showableAll, f.sh, a, Bool.and_self]
    · simp only [PyData.depthAll]
      have := f.dp
      omega
    · simp only [PyData.leavesShortAll, f.lf, c, Bool.and_self]
    · simp only [PyData.bulkAll, List.length_cons]
      have := f.bk
      rw [Nat.mul_add]
      omega
theorem fine_list {n k m : Nat} {ds : List PyData} (h : ∀ d ∈ ds, Fine n k d) (hm : (k + 1) * ds.length ≤ m) : Fine (n + 1) m (.list ds) := by
  obtain ⟨a, b, c, e⟩ := fine_all ds h
  refine ⟨by simp only [PyData.showable]; exact a, ?_, by simp only [PyData.leavesShort]; exact c, by simp only [PyData.bulk]; omega⟩
  simp only [PyData.depth]
  omega
theorem fine_tuple {n k m : Nat} {ds : List PyData} (h : ∀ d ∈ ds, Fine n k d) (hm : (k + 1) * ds.length ≤ m) : Fine (n + 1) m (.tuple ds) := by
  obtain ⟨a, b, c, e⟩ := fine_all ds h
  refine ⟨by simp only [PyData.showable]; exact a, ?_, by simp only [PyData.leavesShort]; exact c, by simp only [PyData.bulk]; omega⟩
  simp only [PyData.depth]
  omega
theorem fine_int {i : Int} (h : i.natAbs < 10 ^ 12) : Fine 0 0 (.int i) where
  sh := by
    have e : i.natAbs.log2 < 1920 := by
      by_cases z : i.natAbs = 0
      · rw [z]; decide
      · have := (Nat.log2_lt z (k := 64)).mpr (Nat.lt_trans h (by decide))
        omega
    simp only [PyData.showable, decide_eq_true e]
  dp := by simp only [PyData.depth]; exact Nat.le_refl 0
  lf := by
    have z := PyData.shown_int_le h
    simp only [PyData.leavesShort]
    exact decide_eq_true (by omega)
  bk := by simp only [PyData.bulk]; exact Nat.le_refl 0
theorem fine_none : Fine 0 0 .none := ⟨by decide +kernel, by decide +kernel, by decide +kernel, by decide +kernel⟩
theorem fine_bool (b : Bool) : Fine 0 0 (.bool b) := by
  cases b <;> exact ⟨by decide +kernel, by decide +kernel, by decide +kernel, by decide +kernel⟩
theorem fine_big : Fine 0 0 (.int (10 ^ 30)) := ⟨by decide +kernel, by decide +kernel, by decide +kernel, by decide +kernel⟩
/-- repr(x), x such data -/
def rRepF (K : PySem.W.Frag) : List V → Hp → VK → Prop := fun xs H Q => ∃ (x : V) (d : PyData), xs = [x] ∧ Dq K H x d ∧ Fine 8 300000 d ∧ Q (.str d.shown) H
theorem call_repF {X : Cx} (S : SysK X.K) (qa : Quiet X.A) (hu : X.A.units + 64 < cLine) : CallR X (.builtin "repr") (rRepF X.K) := by
  intro pins s σ H xs us Q I r h
  obtain ⟨x, d, rfl, hd, fi, q⟩ := h
  obtain ⟨u, rfl, ru⟩ := vals1 r
  obtain ⟨as, rd, na⟩ := Dq.reads S I d x u hd ru
  have sh := fi.sh
  have sz := fi.fits (Nat.le_refl _)
  have dp := fi.dp
  have keep : ∀ (h' : Heap) (t : Tok) (tk : Nat), (∀ b o, s.heap.get? b = some o → h'.get? b = some o) →
      EP X pins σ Q (.str d.shown t) { s with heap := h', toks := tk } :=
    fun h' t tk k => ⟨.str d.shown, H, I.kept (t' := tk) k, ⟨t, rfl⟩, q⟩
  have flat : ∀ (t : Tok) (tk : Nat), EP X pins σ Q (.str d.shown t) { s with toks := tk } :=
    fun t tk => ⟨.str d.shown, H, I.tok tk, ⟨t, rfl⟩, q⟩
  cases d with
  | none => cases rd; exact PySem.P.repr_of_none (flat _ _)
  | bool b => cases rd; exact PySem.P.repr_of_bool (flat _ _)
  | int i =>
    cases rd
    exact PySem.P.repr_of_int (of_decide_eq_true (by simpa only [PyData.showable] using sh)) (flat _ _)
  | str y => cases rd; exact PySem.P.repr_of_str (flat _ _) sz
  | list ds =>
    cases rd with
    | list a1 a2 a3 a4 => exact repr_of_reads' (.list a1 a2 a3 a4) sh (fun _ => na) qa (by omega) (fun _ _ z => z) (fun h' t tk k => keep h' t tk k) sz
  | tuple ds =>
    cases rd with
    | tuple a1 a2 a3 a4 => exact repr_of_reads' (.tuple a1 a2 a3 a4) sh (fun _ => na) qa (by omega) (fun _ _ z => z) (fun h' t tk k => keep h' t tk k) sz
  | dict kv =>
    cases rd with
    | dict a1 a2 a3 a4 a5 => exact repr_of_reads' (.dict a1 a2 a3 a4 a5) sh (fun _ => na) qa (by omega) (fun _ _ z => z) (fun h' t tk k => keep h' t tk k) sz
/-- x is b, x None or a truth value -/
abbrev rIsNB : R2 := fun x y H Q => ∃ (og : Option Bool) (b : Bool), x = (match og with | none => .non | some a => .bl a) ∧ y = .bl b ∧ Q (.bl (decide (og = some b))) H
theorem op_isNB {X : Cx} : OpR X (compareOp .Is) rIsNB := by
  intro pins s σ H x y v u Q I rx ry h
  obtain ⟨og, b, rfl, rfl, q⟩ := h
  cases (show u = Value.bool b from ry)
  cases og with
  | none =>
    cases (show v = Value.none from rx)
    exact wpAny_is_other rfl (fun z => nomatch z) ⟨.bl false, H, I, rfl, by simpa using q⟩
  | some a =>
    cases (show v = Value.bool a from rx)
    by_cases e : a = b
    · subst e
      exact wpAny_is_self rfl ⟨.bl true, H, I, rfl, by simpa using q⟩
    · exact wpAny_is_other rfl (fun z => e (Value.bool.inj z)) ⟨.bl false, H, I, rfl, by simpa [e] using q⟩
end Gk
set_option Elab.async false
set_option linter.all false
set_option maxRecDepth 100000
set_option maxHeartbeats 4000000
namespace Hd
open PySem PySem.Spec PyProof.Rows L2 Gk
/-! ### the text -/
def topS (i : Nat) : Stmt := PySem.Challenge.pw_thinslopes_k03_whole_groupings_all_and_r.main.body.getD i (.Pass ⟨0, 0, 0, 0⟩)
abbrev sHand : Stmt := topS 17
abbrev sMixed : Stmt := topS 18
abbrev sTake : Stmt := topS 19
theorem scHand : FnScope ["_law_script", "_law_total", "_law_cells", "_law_cell"] ["_law_script"] (defScope sHand) :=
  ⟨rfl, rfl, rfl, by decide +kernel, rfl, by decide +kernel, by decide +kernel⟩
theorem scMixed : FnScope ["_law_number", "_law_turn", "_law_once", "_law_twice"] ["_law_number", "_law_turn"] (defScope sMixed) :=
  ⟨rfl, rfl, rfl, by decide +kernel, rfl, by decide +kernel, by decide +kernel⟩
theorem scTake : FnScope ["_law_hand_here", "_law_many_here", "_law_cell", "_law_rest"] ["_law_hand_here", "_law_many_here"] (defScope sTake) :=
  ⟨rfl, rfl, rfl, by decide +kernel, rfl, by decide +kernel, by decide +kernel⟩
/-- names of built-in things that the text leaves alone -/
structure TB (mg : Str → Option Value) : Prop where
  len : mg "len" = none
  int : mg "int" = none
  abs : mg "abs" = none
/-! ### the hand: the script's numbers without signs, how far they are read, the rest of a great one, a running sum -/
/-- the hand at a, its numbers at c -/
def HandAt (H : Hp) (a c : Addr) : Prop := ∃ (cs : List Int) (i r t : Int), H a = some (.lst [.ref c, .int i, .int r, .int t]) ∧ H c = some (.lst (cs.map V.int)) ∧
  c ≠ a ∧ (∀ z ∈ cs, 0 ≤ z) ∧ 0 ≤ i ∧ 0 ≤ r ∧ cs.length ≤ 63
/-- all but the hand stands as it stood -/
def But (a : Addr) (H H' : Hp) : Prop := ∀ b o, b ≠ a → H b = some o → H' b = some o
theorem But.refl (a : Addr) (H : Hp) : But a H H := fun _ _ _ h => h
theorem But.trans {a : Addr} {H H1 H2 : Hp} (x : But a H H1) (y : But a H1 H2) : But a H H2 := fun b o h z => y b o h (x b o h z)
theorem But.of {a : Addr} {H H' : Hp} (x : Same H H') : But a H H' := fun b o _ z => x b o z
def spHand (K : PySem.W.Frag) : Sp := fun vs H Q _ => ∃ (s : Addr) (ns : List Int), vs = [.ref s] ∧ SqL K H s (ns.map V.int) ∧ ns.length ≤ 63 ∧
  ∀ (H' : Hp) (a c : Addr), Same H H' → H a = none → HandAt H' a c → Q (.ref a) H'
def spMixed : Sp := fun vs H Q _ => ∃ n t : Int, vs = [.int n, .int t] ∧ ∀ r : Int, 0 ≤ r → Q (.int r) H
def spTake : Sp := fun vs H Q _ => ∃ (a c : Addr) (m : Int), vs = [.ref a, .int m] ∧ HandAt H a c ∧ 0 < m ∧ m < 2 ^ 4000 ∧
  ∀ (n : Int) (H' : Hp), 0 ≤ n → n < m → HandAt H' a c → But a H H' → Q (.int n) H'
/-- int(e) of an int -/
theorem call_intI {X : Cx} : CallR X (.type "int") (fun xs H Q => ∃ i, xs = [.int i] ∧ Q (.int i) H) := fun pins s σ H xs us Q I r h => by
  obtain ⟨i, e, q⟩ := h
  exact call_int1 pins s σ H xs us Q I r (.inl ⟨i, e, q⟩)
section
variable {P : Program} {w : World} {K : PySem.W.Frag} {mg : Str → Option Value} {base : Heap}
theorem ok_mixed {f : Addr} {fd : FuncData} (F : Fun K "_law_mixed" "_law_mixed" sMixed f fd) (T : TB mg) : FnOk P w K mg base CX0 1 f fd ["_law_number", "_law_turn"] spMixed := by
  refine F.ok scMixed (fun vs H Q E h => ?_) (fun cdv A outer s H vs Q E hr h => ?_)
  · obtain ⟨n, t, rfl, _⟩ := h
    rfl
  · obtain ⟨n, t, rfl, q⟩ := h
    refine ⟨_, pss_cons (ps_set (i := 2) scMixed.nd rfl (.inl rfl) (pe_op op_mod (pe_callTy call_intI (by rfl) T.int boot_int (pa_cons (pe_op op_add (pe_op op_add (pe_op op_mul (pv 0) pe_int) (pe_op op_mul (pv 1) pe_int)) pe_int) pa_nil)) pe_int))
      (pss_cons (ps_set (i := 3) scMixed.nd rfl (.inl rfl) (pe_op op_mod (pe_callTy call_intI (by rfl) T.int boot_int (pa_cons (pe_op op_add (pe_op op_add (pe_op op_mul (pv 2) (pv 2)) (pe_op op_mul (pv 1) pe_int)) (pe_op op_fdiv (pv 2) pe_int)) pa_nil)) pe_int))
      (pss_one (ps_ret (pe_op op_fdiv (pe_callTy call_intI (by rfl) T.int boot_int (pa_cons (pe_op op_mod (pe_callTy call_intI (by rfl) T.int boot_int (pa_cons (pe_op op_add (pe_op op_mul (pv 3) pe_int) (pe_op op_fdiv (pv 2) pe_int)) pa_nil)) pe_int) pa_nil)) pe_int)))), ?_⟩
    refine ⟨_, rfl, _, _, rfl, rfl, .inr ⟨by decide, by decide⟩, _, rfl, _, _, rfl, rfl, .inr ⟨by decide, by decide⟩, _, _, rfl, rfl, _, _, rfl, rfl, _, rfl, _, _, rfl, rfl, (by decide : (0 : Int) < 2147483399), ?_⟩
    have b1 := Int.emod_nonneg (n * 48271 + t * 7919 + 30011) (by decide : (2147483399 : Int) ≠ 0)
    have b2 := Int.emod_lt_of_pos (n * 48271 + t * 7919 + 30011) (by decide : (0 : Int) < 2147483399)
    generalize (n * 48271 + t * 7919 + 30011) % 2147483399 = once at b1 b2
    refine ⟨_, rfl, _, rfl, _, _, rfl, rfl, .inl ⟨by omega, by omega⟩, _, rfl, _, _, rfl, rfl, .inr ⟨by decide, by decide⟩, _, _, rfl, rfl, _, rfl, _, _, rfl, rfl, ⟨by decide, by decide⟩, _, _, rfl, rfl, _, rfl, _, _, rfl, rfl, (by decide : (0 : Int) < 2147483629), ?_⟩
    refine ⟨_, rfl, _, _, rfl, rfl, .inr ⟨by decide, by decide⟩, _, rfl, _, _, rfl, rfl, ⟨by decide, by decide⟩, _, _, rfl, rfl, _, rfl, _, _, rfl, rfl, (by decide : (0 : Int) < 2147483587), _, rfl, _, _, rfl, rfl, ⟨by decide, by decide⟩, ?_⟩
    exact q _ (Int.ediv_nonneg (Int.emod_nonneg _ (by decide)) (by decide))
theorem ok_hand {f : Addr} {fd : FuncData} (F : Fun K "_law_hand" "_law_hand" sHand f fd) (T : TB mg) : FnOk P w K mg base CX0 1 f fd ["_law_script"] (spHand K) := by
  refine F.ok scHand (fun vs H Q E h => ?_) (fun cdv A outer s H vs Q E hr h => ?_)
  · obtain ⟨n, t, rfl, _⟩ := h
    rfl
  · obtain ⟨sa, ns, rfl, hS, hlen, q⟩ := h
    refine ⟨_, pss_cons (ps_set (i := 1) scHand.nd rfl (.inl rfl) (pe_op op_add (pe_callB call_len_seq (by rfl) T.len boot_len (pa_cons (pv 0) pa_nil)) pe_int))
      (pss_cons (ps_set (i := 2) scHand.nd rfl (.inl rfl) (pe_lst pa_nil))
      (pss_cons (ps_for PassesOwn.never rfl (pi_list (pv 0)) (pg_name (i := 3) scHand.nd rfl (.inl rfl))
        (pss_cons (ps_set (i := 1) scHand.nd rfl (.inl rfl) (pe_op op_mod (pe_callTy call_intI (by rfl) T.int boot_int (pa_cons (pe_op op_add (pe_op op_mul (pv 1) pe_int) (pe_callTy call_intI (by rfl) T.int boot_int (pa_cons (pv 3) pa_nil))) pa_nil)) pe_int))
        (pss_one (ps_expr (pe_bm PySem.F.plainAttrs_list PySem.F.slot_list_append PySem.F.type_list_append mt_append (pv 2)
          (pa_cons (pe_callB call_abs (by rfl) T.abs (by decide +kernel) (pa_cons (pe_callTy call_intI (by rfl) T.int boot_int (pa_cons (pv 3) pa_nil)) pa_nil)) pa_nil))))))
      (pss_one (ps_ret (pe_lst (pa_cons (pv 2) (pa_cons pe_int (pa_cons pe_int (pa_cons (pv 1) pa_nil))))))))), ?_⟩
    refine ⟨_, rfl, sa, _, rfl, .inl hS, _, _, rfl, rfl, Nat.zero_le _, fun c hc => ?_⟩
    have s1 : Same H (upd H c (.lst [])) := fun b o z => by rw [upd_ne (ne_of_none z hc)]; exact z
    have ncs : ∀ H2, Same H H2 → SqL K H2 sa (ns.map V.int) := fun H2 z => z.seq hS
    refine ⟨_, rfl, sa, rfl, ⟨_, ncs _ s1⟩, for_list (K := K) (a := sa) (xs := ns.map V.int)
      (fun i σ H2 => ∃ (t : Int) (v : Option V) (cs : List Int), σ = [some (.ref sa), some (.int t), some (.ref c), v] ∧ -(2 ^ 64) < t ∧ t < 2 ^ 64 ∧ Same H H2 ∧ H2 c = some (.lst (cs.map V.int)) ∧ (∀ z ∈ cs, 0 ≤ z) ∧ cs.length = i)
      ⟨_, none, [], rfl, ?_, ?_, s1, upd_same, fun z hz => absurd hz List.not_mem_nil, rfl⟩ (fun i σ H2 _ ⟨_, _, _, _, _, _, z, _⟩ => ncs _ z) ?_ ?_⟩
    · rw [List.length_map]; omega
    · rw [List.length_map]; omega
    · rintro i y σ H2 hi ⟨t, v, cs, rfl, t1, t2, s2, hcs, nn, ln⟩
      have hil : i < (ns.map V.int).length := (List.getElem?_eq_some_iff.mp hi).1
      rw [List.length_map] at hil
      obtain ⟨z, rfl⟩ : ∃ z, y = V.int z := by
        rw [List.getElem?_map] at hi
        cases e : ns[i]? with
        | none => rw [e] at hi; cases hi
        | some z => rw [e] at hi; exact ⟨z, (Option.some.inj hi).symm⟩
      refine ⟨_, rfl, _, _, rfl, rfl, .inr ⟨by decide, by decide⟩, _, rfl, _, rfl, _, _, rfl, rfl, _, rfl, _, _, rfl, rfl, (by decide : (0 : Int) < 2147483549), ?_⟩
      refine ⟨_, rfl, .inl ⟨rfl, _, SqL.of hcs⟩, _, rfl, _, rfl, _, rfl, c, _, _, rfl, rfl, hcs, ?_, ?_⟩
      · rw [List.length_map, ln]
        exact small1000 (by omega)
      · have b1 := Int.emod_nonneg (t * 1709 + z) (by decide : (2147483549 : Int) ≠ 0)
        have b2 := Int.emod_lt_of_pos (t * 1709 + z) (by decide : (0 : Int) < 2147483549)
        refine ⟨_, some (.int z), cs ++ [if z < 0 then -z else z], rfl, by omega, by omega, fun b o e => ?_, ?_, ?_, ?_⟩
        · rw [upd_ne (ne_of_none e hc)]
          exact s2 b o e
        · rw [upd_same, List.map_append]
          rfl
        · intro x hx
          rcases List.mem_append.mp hx with h1 | h1
          · exact nn x h1
          · rw [List.mem_singleton.mp h1]
            split <;> omega
        · rw [List.length_append, ln]
          rfl
    · rintro σ H2 ⟨t, v, cs, rfl, t1, t2, s2, hcs, nn, ln⟩
      refine ⟨_, rfl, _, rfl, (by show 4 ≤ sizeLine; decide), fun p hp => ?_⟩
      have npc : c ≠ p := ne_of_none hcs hp
      have s3 : Same H (upd H2 p (.lst [.ref c, .int 0, .int 0, .int t])) := fun b o e => by
        rw [upd_ne (ne_of_none (s2 b o e) hp)]
        exact s2 b o e
      refine q _ p c s3 (s2.free hp) ⟨cs, 0, 0, t, upd_same, ?_, npc, nn, by decide, by decide, ?_⟩
      · rw [upd_ne npc]
        exact hcs
      · rw [ln, List.length_map]
        exact hlen

theorem at_item {xs : List V} {i : Int} {v : V} (h0 : 0 ≤ i) (h : xs[i.toNat]? = some v) : atI xs i = some v := by
  have h1 : i.toNat < xs.length := (List.getElem?_eq_some_iff.mp h).1
  have e : (i.toNat : Int) = i := Int.toNat_of_nonneg h0
  rw [← e]
  exact atI_nat h
theorem ok_take {f fM : Addr} {fd fdM : FuncData} (F : Fun K "_law_take" "_law_take" sTake f fd) (T : TB mg) (FM : Fun K "_law_mixed" "_law_mixed" sMixed fM fdM)
    (gM : mg "_law_mixed" = some (.ref fM)) : FnOk P w K mg base CX0 2 f fd ["_law_hand_here", "_law_many_here"] spTake := by
  have GM : FnOk P w K mg base CX0 1 fM fdM ["_law_number", "_law_turn"] spMixed := ok_mixed FM T
  have bM : Binds K fdM ["_law_number", "_law_turn"] [] := FM.binds fun _ _ _ _ _ _ us hl => match us, hl with | [_, _], _ => rfl
  refine F.ok scTake (fun vs H Q E h => ?_) (fun cdv A outer s H vs Q E hr h => ?_)
  · obtain ⟨a, c, m, rfl, _⟩ := h
    rfl
  · obtain ⟨a, c, m, rfl, hA, m0, m9, q⟩ := h
    refine ⟨_, Evl.pss_cut (ps_if (PW.pt (pw_and (pt_cmpR op_eq (pe_ix ix_list (pv 0) pe_int (fun _ _ => rfl)) pe_int (nomark _))
          (pw_and1 (pt_cmpR op_lt (pe_ix ix_list (pv 0) pe_int (fun _ _ => rfl)) (pe_callB call_len_seq (by rfl) T.len boot_len (pa_cons (pe_ix ix_list (pv 0) pe_int (fun _ _ => rfl)) pa_nil)) (nomark _)))))
        (pss_cons (ps_set (i := 2) scTake.nd rfl (.inl rfl) (pe_ix ix_list (pe_ix ix_list (pv 0) pe_int (fun _ _ => rfl)) (pe_ix ix_list (pv 0) pe_int (fun _ _ => rfl)) (fun _ _ => rfl)))
        (pss_cons (ps_asg (pe_op op_add (pe_ix ix_list (pv 0) pe_int (fun _ _ => rfl)) pe_int) (pg_sub (pv 0) pe_int set_list))
        (pss_cons (ps_if (pt_cmpR op_lt (pv 2) (pe_op op_pow pe_int pe_int) (nomark _))
          (pss_one (ps_ret (pe_op op_mod (pe_callTy call_intI (by rfl) T.int boot_int (pa_cons (pe_call GM hr rfl gM FM.kp bM .nil pass0
            (pa_cons (pe_op op_mod (pe_callTy call_intI (by rfl) T.int boot_int (pa_cons (pv 2) pa_nil)) pe_int) (pa_cons (pe_ix ix_list (pv 0) pe_int (fun _ _ => rfl)) pa_nil))) pa_nil)) (pv 1))))
          pss_nil)
        (pss_one (ps_asg (pv 2) (pg_sub (pv 0) pe_int set_list))))))
        pss_nil)
      (pss_cons (ps_if (pt_cmpR op_gt (pe_ix ix_list (pv 0) pe_int (fun _ _ => rfl)) pe_int (nomark _))
        (pss_cons (ps_set (i := 3) scTake.nd rfl (.inl rfl) (pe_ix ix_list (pv 0) pe_int (fun _ _ => rfl)))
        (pss_cons (ps_asg (pe_op op_fdivW (pe_callTy call_intI (by rfl) T.int boot_int (pa_cons (pv 3) pa_nil)) (pv 1)) (pg_sub (pv 0) pe_int set_list))
        (pss_one (ps_ret (pe_op op_mod (pe_callTy call_intI (by rfl) T.int boot_int (pa_cons (pv 3) pa_nil)) (pv 1))))))
        pss_nil)
      (pss_cons (ps_asg (pe_op op_mod (pe_callTy call_intI (by rfl) T.int boot_int (pa_cons (pe_op op_add (pe_ix ix_list (pv 0) pe_int (fun _ _ => rfl)) pe_int) pa_nil)) pe_int) (pg_sub (pv 0) pe_int set_list))
      (pss_one (ps_ret (pe_op op_mod (pe_callTy call_intI (by rfl) T.int boot_int (pa_cons (pe_call GM hr rfl gM FM.kp bM .nil pass0
        (pa_cons (pe_ix ix_list (pv 0) pe_int (fun _ _ => rfl)) (pa_cons (pe_ix ix_list (pv 0) pe_int (fun _ _ => rfl)) pa_nil))) pa_nil)) (pv 1)))))), ?_⟩
    obtain ⟨cs, i, r, t, ha, hc, nca, nn, i0, r0, l63⟩ := hA
    have fin : ∀ (n i' r' t' : Int), 0 ≤ n → n < m → 0 ≤ i' → 0 ≤ r' → Q (.int n) (upd H a (.lst [.ref c, .int i', .int r', .int t'])) := fun n i' r' t' n0 n1 i1 r1 =>
      q n _ n0 n1 ⟨cs, i', r', t', upd_same, by rw [upd_ne nca]; exact hc, nca, nn, i1, r1, l63⟩ fun b o hb z => by rw [upd_ne hb]; exact z
    have modm : ∀ z : Int, 0 ≤ z % m ∧ z % m < m := fun z => ⟨Int.emod_nonneg _ (by omega), Int.emod_lt_of_pos _ m0⟩
    have wd : ∀ z : Int, CDivW z m := fun z => wide_div (b := 4000) m0 (by omega) (by decide) (by decide)
    have same : upd H a (.lst [.ref c, .int i, .int r, .int t]) = H := by
      funext b
      by_cases e : b = a
      · rw [e, upd_same, ha]
      · rw [upd_ne e]
    have sc : ∀ L, (upd H a L) c = some (.lst (cs.map V.int)) := fun L => by rw [upd_ne nca]; exact hc
    refine ⟨fun σ' H' => ∃ (x2 x3 : Option V) (i' r' t' : Int), σ' = [some (.ref a), some (.int m), x2, x3] ∧ H' = upd H a (.lst [.ref c, .int i', .int r', .int t']) ∧ 0 ≤ i' ∧ 0 ≤ r', ?_, ?_⟩
    · -- the first half
      refine ⟨_, rfl, a, _, 2, _, rfl, rfl, SqL.of ha, rfl, rfl, _, rfl, ?_⟩
      refine ite2 (fun hr0 => ?_) (fun _ => ?_)
      · have er : r = 0 := by simpa using hr0
        refine ⟨_, rfl, a, _, 1, _, rfl, rfl, SqL.of ha, rfl, _, rfl, a, _, 0, _, rfl, rfl, SqL.of ha, rfl, c, _, rfl, .inl (SqL.of hc), _, _, rfl, rfl, _, rfl, ?_⟩
        refine ite2 (fun hlt => ?_) (fun _ => ?_)
        · have hi : i < (cs.length : Int) := by
            have z := of_decide_eq_true hlt
            rwa [List.length_map] at z
          have hx : cs[i.toNat]? = some (cs[i.toNat]'(by omega)) := List.getElem?_eq_getElem _
          generalize (cs[i.toNat]'(by omega)) = x at hx
          have x0 : 0 ≤ x := nn x (List.mem_of_getElem? hx)
          refine ⟨_, rfl, a, _, 0, _, rfl, rfl, SqL.of ha, rfl, _, rfl, a, _, 1, _, rfl, rfl, SqL.of ha, rfl, c, _, i, .int x, rfl, rfl, SqL.of hc, at_item i0 (by rw [List.getElem?_map, hx]; rfl), ?_⟩
          refine ⟨_, rfl, a, _, 1, _, rfl, rfl, SqL.of ha, rfl, _, _, rfl, rfl, _, rfl, a, _, 1, 1, rfl, rfl, ha, rfl, ?_⟩
          refine ⟨_, rfl, _, _, rfl, rfl, ⟨by decide, by decide, by decide⟩, _, _, rfl, rfl, _, rfl, ?_⟩
          refine ite2 (fun _ => ?_) (fun hge => ?_)
          · refine ⟨_, rfl, _, rfl, _, _, rfl, rfl, (by decide : (0 : Int) < 2147483399), _, rfl, a, _, 1, _, rfl, rfl, SqL.of upd_same, rfl, _, _, rfl, fun z hz => ?_⟩
            refine ⟨_, rfl, _, rfl, _, _, rfl, rfl, m0, ?_⟩
            exact fin _ _ _ _ (modm z).1 (modm z).2 (by omega) r0
          · refine ⟨_, rfl, _, rfl, a, _, 2, 2, rfl, rfl, upd_same, rfl, ?_⟩
            refine ⟨_, _, i + 1, x, t, rfl, ?_, by omega, x0⟩
            rw [upd_upd]
            rfl
        · exact ⟨none, none, i, r, t, rfl, same.symm, i0, r0⟩
      · exact ⟨none, none, i, r, t, rfl, same.symm, i0, r0⟩
    · -- the second half
      rintro σ' H' ⟨x2, x3, i', r', t', rfl, rfl, i1, r1⟩
      refine ⟨_, rfl, a, _, 2, _, rfl, rfl, SqL.of upd_same, rfl, _, _, rfl, rfl, _, rfl, ?_⟩
      refine ite2 (fun hpos => ?_) (fun _ => ?_)
      · have rp : 0 < r' := of_decide_eq_true hpos
        refine ⟨_, rfl, a, _, 2, _, rfl, rfl, SqL.of upd_same, rfl, ?_⟩
        refine ⟨_, rfl, _, rfl, _, rfl, _, _, rfl, rfl, wd _, _, rfl, a, _, 2, 2, rfl, rfl, upd_same, rfl, ?_⟩
        refine ⟨_, rfl, _, rfl, _, rfl, _, _, rfl, rfl, m0, ?_⟩
        rw [upd_upd]
        exact fin _ i' (r' / m) t' (modm r').1 (modm r').2 i1 (Int.ediv_nonneg r1 (by omega))
      · refine ⟨_, rfl, a, _, 3, _, rfl, rfl, SqL.of upd_same, rfl, _, _, rfl, rfl, _, rfl, _, _, rfl, rfl, (by decide : (0 : Int) < 2147483549), _, rfl, a, _, 3, 3, rfl, rfl, upd_same, rfl, ?_⟩
        refine ⟨_, rfl, a, _, 3, _, rfl, rfl, SqL.of upd_same, rfl, _, rfl, a, _, 1, _, rfl, rfl, SqL.of upd_same, rfl, _, _, rfl, fun z hz => ?_⟩
        refine ⟨_, rfl, _, rfl, _, _, rfl, rfl, m0, ?_⟩
        rw [upd_upd]
        exact fin _ i' r' _ (modm z).1 (modm z).2 i1 r1
end
end Hd
set_option Elab.async false
set_option linter.all false
set_option maxRecDepth 100000
set_option maxHeartbeats 1000000
namespace Hd
open PySem PySem.Spec PyProof.Rows L2 Gk
/-- names of built-in things -/
structure TD (mg : Str → Option Value) : Prop extends TB mg where
  isi : mg "isinstance" = none
  bool : mg "bool" = none
  list : mg "list" = none
  tuple : mg "tuple" = none
  range : mg "range" = none
  enum : mg "enumerate" = none
  max : mg "max" = none
  min : mg "min" = none
  rep : mg "repr" = none
/-! ### what is asked of a datum -/
def intD (d : PyData) : Bool := isD "int" d && !isD "bool" d
def seqD (d : PyData) : Bool := isD "list" d || isD "tuple" d
theorem intD_iff {d : PyData} : intD d = true ↔ ∃ i, d = .int i := by
  constructor
  · intro h
    cases d with
    | int i => exact ⟨i, rfl⟩
    | none => exact absurd (show (isT "int" "NoneType" && !isT "bool" "NoneType") = true from h) (by decide +kernel)
    | bool _ => exact absurd (show (isT "int" "bool" && !isT "bool" "bool") = true from h) (by decide +kernel)
    | str _ => exact absurd (show (isT "int" "str" && !isT "bool" "str") = true from h) (by decide +kernel)
    | list _ => exact absurd (show (isT "int" "list" && !isT "bool" "list") = true from h) (by decide +kernel)
    | tuple _ => exact absurd (show (isT "int" "tuple" && !isT "bool" "tuple") = true from h) (by decide +kernel)
    | dict _ => exact absurd (show (isT "int" "dict" && !isT "bool" "dict") = true from h) (by decide +kernel)
  · rintro ⟨i, rfl⟩
    show (isT "int" "int" && !isT "bool" "int") = true
    decide +kernel
theorem int_v {K : PySem.W.Frag} {H : Hp} {v : V} {i : Int} (h : Dq K H v (.int i)) : v = .int i := by cases h; rfl
theorem seqD_iff {d : PyData} : seqD d = true ↔ (∃ ds, d = .list ds) ∨ ∃ ds, d = .tuple ds := by
  constructor
  · intro h
    cases d with
    | list ds => exact .inl ⟨ds, rfl⟩
    | tuple ds => exact .inr ⟨ds, rfl⟩
    | none => exact absurd (show (isT "list" "NoneType" || isT "tuple" "NoneType") = true from h) (by decide +kernel)
    | bool _ => exact absurd (show (isT "list" "bool" || isT "tuple" "bool") = true from h) (by decide +kernel)
    | str _ => exact absurd (show (isT "list" "str" || isT "tuple" "str") = true from h) (by decide +kernel)
    | dict _ => exact absurd (show (isT "list" "dict" || isT "tuple" "dict") = true from h) (by decide +kernel)
    | int _ => exact absurd (show (isT "list" "int" || isT "tuple" "int") = true from h) (by decide +kernel)
  · rintro (⟨ds, rfl⟩ | ⟨ds, rfl⟩)
    · show (isT "list" "list" || isT "tuple" "list") = true
      decide +kernel
    · show (isT "list" "tuple" || isT "tuple" "tuple") = true
      decide +kernel
/-- the items of a list or a tuple -/
theorem seq_v {K : PySem.W.Frag} {H : Hp} {v : V} {d : PyData} (h : Dq K H v d) (s : seqD d = true) : ∃ a xs ds, v = .ref a ∧ SqS K H a xs ∧ DqAll K H xs ds ∧ ((d = .list ds ∧ SqL K H a xs) ∨ (d = .tuple ds ∧ SqT K H a xs)) := by
  rcases seqD_iff.mp s with ⟨ds, rfl⟩ | ⟨ds, rfl⟩
  · cases h with
    | lst a b => exact ⟨_, _, _, rfl, .inl a, b, .inl ⟨rfl, a⟩⟩
  · cases h with
    | tup a b => exact ⟨_, _, _, rfl, .inr a, b, .inr ⟨rfl, a⟩⟩
def boundD (lo hi : Option Int) (i : Int) : Bool := (match lo with | none => true | some l => decide (l ≤ i)) && (match hi with | none => true | some h => decide (i ≤ h))
def wholeD (lo hi : Option Int) : PyData → Bool
  | .int i => boundD lo hi i
  | _ => false
theorem wholeD_no {lo hi : Option Int} {d : PyData} (h : intD d = false) : wholeD lo hi d = false := by
  cases d with
  | int i => rw [intD_iff.mpr ⟨i, rfl⟩] at h; cases h
  | _ => rfl
def oV : Option Int → V
  | none => .non
  | some i => .int i
/-! ### promises -/
def spIntD (K : PySem.W.Frag) : Sp := fun vs H Q _ => ∃ v d, vs = [v] ∧ Dq K H v d ∧ Q (.bl (intD d)) H
def spSeqD (K : PySem.W.Frag) : Sp := fun vs H Q _ => ∃ v d, vs = [v] ∧ Dq K H v d ∧ Q (.bl (seqD d)) H
def spWithin (K : PySem.W.Frag) : Sp := fun vs H Q _ => ∃ v d l h, vs = [v, .int l, .int h] ∧ Dq K H v d ∧ Q (.bl (wholeD (some l) (some h) d)) H
def spIsSeq (K : PySem.W.Frag) : Sp := fun vs H Q _ => ∃ v d, vs = [v] ∧ Dq K H v d ∧ ∀ H', Same H H' → Q (.bl (seqD d)) H'
def spWhole (K : PySem.W.Frag) : Sp := fun vs H Q _ => ∃ v d lo hi, vs = [v, oV lo, oV hi] ∧ Dq K H v d ∧ Q (.bl (wholeD lo hi d)) H
/-- unshared(x): a tuple of a list's items, any other thing itself -/
def unD : PyData → PyData
  | .list ds => .tuple ds
  | d => d
def spUn (K : PySem.W.Frag) : Sp := fun vs H Q _ => ∃ v d, vs = [v] ∧ Dq K H v d ∧ ∀ v' H', Same H H' → Dq K H' v' (unD d) → Q v' H'
section
variable {P : Program} {w : World} {K : PySem.W.Frag} {mg : Str → Option Value} {base : Heap}
theorem sc24 : FnScope ["_law_thing"] ["_law_thing"] (defScope (topS 24)) := ⟨rfl, rfl, rfl, by decide +kernel, rfl, by decide +kernel, by decide +kernel⟩
theorem sc23 : FnScope ["_law_thing"] ["_law_thing"] (defScope (topS 23)) := ⟨rfl, rfl, rfl, by decide +kernel, rfl, by decide +kernel, by decide +kernel⟩
theorem sc25 : FnScope ["_law_thing", "_law_low", "_law_high"] ["_law_thing", "_law_low", "_law_high"] (defScope (topS 25)) := ⟨rfl, rfl, rfl, by decide +kernel, rfl, by decide +kernel, by decide +kernel⟩
theorem sc5 : FnScope ["thing"] ["thing"] (defScope (topS 5)) := ⟨rfl, rfl, rfl, by decide +kernel, rfl, by decide +kernel, by decide +kernel⟩
theorem sc6 : FnScope ["thing", "low", "high"] ["thing", "low", "high"] (defScope (topS 6)) := ⟨rfl, rfl, rfl, by decide +kernel, rfl, by decide +kernel, by decide +kernel⟩
theorem sc7 : FnScope ["thing"] ["thing"] (defScope (topS 7)) := ⟨rfl, rfl, rfl, by decide +kernel, rfl, by decide +kernel, by decide +kernel⟩
theorem ok_int {f : Addr} {fd : FuncData} (F : Fun K "_law_int" "_law_int" (topS 24) f fd) (T : TD mg) : FnOk P w K mg base CX0 1 f fd ["_law_thing"] (spIntD K) := by
  refine F.ok sc24 (fun vs H Q E h => ?_) (fun cdv A outer s H vs Q E hr h => ?_)
  · obtain ⟨v, d, rfl, _⟩ := h
    rfl
  · obtain ⟨v, d, rfl, hd, q⟩ := h
    refine ⟨_, pss_one (ps_ret (pe_and (pe_callB call_isD (by rfl) T.isi (by decide +kernel) (pa_cons (pv 0) (pa_cons (pe_bltn (v := .ty "int") (by rfl) T.int (by decide +kernel) rfl) pa_nil)))
      (pe_one (pe_not (pe_callB call_isD (by rfl) T.isi (by decide +kernel) (pa_cons (pv 0) (pa_cons (pe_bltn (v := .ty "bool") (by rfl) T.bool (by decide +kernel) rfl) pa_nil))))))), ?_⟩
    refine ⟨_, rfl, v, d, "int", rfl, rfl, hd, _, rfl, ?_⟩
    unfold intD at q
    refine ite2 (fun h1 => ?_) (fun h1 => ?_)
    · refine ⟨_, rfl, v, d, "bool", rfl, rfl, hd, _, rfl, ?_⟩
      rw [h1, Bool.true_and] at q
      exact q
    · rw [Bool.eq_false_iff.mpr h1, Bool.false_and] at q
      exact q
theorem ok_seq {f : Addr} {fd : FuncData} (F : Fun K "_law_seq" "_law_seq" (topS 23) f fd) (T : TD mg) : FnOk P w K mg base CX0 1 f fd ["_law_thing"] (spSeqD K) := by
  refine F.ok sc23 (fun vs H Q E h => ?_) (fun cdv A outer s H vs Q E hr h => ?_)
  · obtain ⟨v, d, rfl, _⟩ := h
    rfl
  · obtain ⟨v, d, rfl, hd, q⟩ := h
    refine ⟨_, pss_one (ps_ret (pe_or (pe_callB call_isD (by rfl) T.isi (by decide +kernel) (pa_cons (pv 0) (pa_cons (pe_bltn (v := .ty "list") (by rfl) T.list (by decide +kernel) rfl) pa_nil)))
      (pe_one (pe_callB call_isD (by rfl) T.isi (by decide +kernel) (pa_cons (pv 0) (pa_cons (pe_bltn (v := .ty "tuple") (by rfl) T.tuple (by decide +kernel) rfl) pa_nil)))))), ?_⟩
    refine ⟨_, rfl, v, d, "list", rfl, rfl, hd, _, rfl, ?_⟩
    unfold seqD at q
    refine ite2 (fun h1 => ?_) (fun h1 => ?_)
    · rw [h1, Bool.true_or] at q
      exact q
    · refine ⟨_, rfl, v, d, "tuple", rfl, rfl, hd, ?_⟩
      rw [Bool.eq_false_iff.mpr h1, Bool.false_or] at q
      exact q
theorem ok_within {f fI : Addr} {fd fdI : FuncData} (F : Fun K "_law_within" "_law_within" (topS 25) f fd) (FI : Fun K "_law_int" "_law_int" (topS 24) fI fdI) (gI : mg "_law_int" = some (.ref fI)) (T : TD mg) :
    FnOk P w K mg base CX0 2 f fd ["_law_thing", "_law_low", "_law_high"] (spWithin K) := by
  have GI : FnOk P w K mg base CX0 1 fI fdI ["_law_thing"] (spIntD K) := ok_int FI T
  have bI : Binds K fdI ["_law_thing"] [] := FI.binds fun _ _ _ _ _ _ us hl => match us, hl with | [_], _ => rfl
  refine F.ok sc25 (fun vs H Q E h => ?_) (fun cdv A outer s H vs Q E hr h => ?_)
  · obtain ⟨v, d, l, u, rfl, _⟩ := h
    rfl
  · obtain ⟨v, d, l, u, rfl, hd, q⟩ := h
    refine ⟨_, pss_one (ps_ret (pe_and (pe_call GI hr rfl gI FI.kp bI .nil pass0 (pa_cons (pv 0) pa_nil)) (pe_one (pe_chain op_le op_le (pv 1) (pv 0) (pv 2))))), ?_⟩
    refine ⟨_, rfl, v, d, rfl, hd, _, rfl, ?_⟩
    refine ite2 (fun h1 => ?_) (fun h1 => ?_)
    · obtain ⟨i, rfl⟩ := intD_iff.mp h1
      cases int_v hd
      refine ⟨_, rfl, _, rfl, _, _, rfl, rfl, _, rfl, ?_⟩
      have q2 : Q (.bl (decide (l ≤ i) && decide (i ≤ u))) H := q
      refine ite2 (fun h2 => ?_) (fun h2 => ?_)
      · refine ⟨_, rfl, _, _, rfl, rfl, ?_⟩
        rw [h2, Bool.true_and] at q2
        exact q2
      · rw [Bool.eq_false_iff.mpr h2, Bool.false_and] at q2
        exact q2
    · rw [wholeD_no (Bool.eq_false_iff.mpr h1)] at q
      exact q
theorem ok_isSeq {f : Addr} {fd : FuncData} (F : Fun K "is_sequence" "is_sequence" (topS 5) f fd) (T : TD mg) : FnOk P w K mg base CX0 1 f fd ["thing"] (spIsSeq K) := by
  refine F.ok sc5 (fun vs H Q E h => ?_) (fun cdv A outer s H vs Q E hr h => ?_)
  · obtain ⟨v, d, rfl, _⟩ := h
    rfl
  · obtain ⟨v, d, rfl, hd, q⟩ := h
    refine ⟨_, pss_one (ps_ret (pe_callB call_isDT (by rfl) T.isi (by decide +kernel) (pa_cons (pv 0) (pa_cons (pe_tup (pa_cons (pe_bltn (v := .ty "list") (by rfl) T.list (by decide +kernel) rfl)
      (pa_cons (pe_bltn (v := .ty "tuple") (by rfl) T.tuple (by decide +kernel) rfl) pa_nil))) pa_nil)))), ?_⟩
    refine ⟨_, rfl, (by show 2 ≤ sizeLine; decide), fun t ht => ?_⟩
    have sm : Same H (upd H t (.tup [.ty "list", .ty "tuple"])) := same_upd' ht
    refine ⟨v, t, d, ["list", "tuple"], rfl, upd_same, fun U hU => ?_, dq_same sm _ _ hd, ?_⟩
    · rcases List.mem_cons.mp hU with z | z
      · rw [z]; rfl
      · rw [List.mem_singleton.mp z]; rfl
    · have q2 := q _ sm
      unfold seqD at q2
      show Q (.bl (isD "list" d || (isD "tuple" d || false))) _
      rw [Bool.or_false]
      exact q2
theorem ok_whole {f : Addr} {fd : FuncData} {dvs : List V} (F : FunD K "is_whole" "is_whole" (defArgs (topS 6)) (defBody (topS 6)) (defScope (topS 6)) dvs [] f fd) (T : TD mg) : FnOk P w K mg base CX0 1 f fd ["thing", "low", "high"] (spWhole K) := by
  refine F.ok sc6 (fun vs H Q E h => ?_) (fun cdv A outer s H vs Q E hr h => ?_)
  · obtain ⟨v, d, lo, hi, rfl, _⟩ := h
    rfl
  · obtain ⟨v, d, lo, hi, rfl, hd, q⟩ := h
    refine ⟨_, PSs.nox (pss_cons (ps_if (PW.pt (pw_or (pt_not (pt_val (pe_callB call_isD (by rfl) T.isi (by decide +kernel) (pa_cons (pv 0) (pa_cons (pe_bltn (v := .ty "int") (by rfl) T.int (by decide +kernel) rfl) pa_nil)))))
        (pw_or1 (pt_val (pe_callB call_isD (by rfl) T.isi (by decide +kernel) (pa_cons (pv 0) (pa_cons (pe_bltn (v := .ty "bool") (by rfl) T.bool (by decide +kernel) rfl) pa_nil)))))))
        (pss_one (ps_ret pe_bl)) pss_nil)
      (pss_one (ps_ret (pe_and (pe_or (pe_cmpR op_isN (pv 1) pe_non (nomark _)) (pe_one (pe_cmpR op_le (pv 1) (pv 0) (nomark _))))
        (pe_one (pe_or (pe_cmpR op_isN (pv 2) pe_non (nomark _)) (pe_one (pe_cmpR op_le (pv 0) (pv 2) (nomark _))))))))), ?_⟩
    refine ⟨_, rfl, v, d, "int", rfl, rfl, hd, _, rfl, ?_⟩
    refine ite2 (fun h1 => ?_) (fun h1 => ?_)
    · refine Eq.mpr (if_pos rfl) ?_
      have e : intD d = false := by
        unfold intD
        have z : isD "int" d = false := by simpa using h1
        rw [z, Bool.false_and]
      rw [wholeD_no e] at q
      exact q
    · have h1 : isD "int" d = true := by simpa using h1
      refine ⟨_, rfl, v, d, "bool", rfl, rfl, hd, _, rfl, ?_⟩
      refine ite2 (fun h2 => ?_) (fun h2 => ?_)
      · have e : intD d = false := by
          unfold intD
          rw [h2, h1]
          rfl
        rw [wholeD_no e] at q
        exact q
      · have e : intD d = true := by
          unfold intD
          rw [Bool.eq_false_iff.mpr h2, h1]
          rfl
        obtain ⟨i, rfl⟩ := intD_iff.mp e
        cases int_v hd
        have q2 : Q (.bl (boundD lo hi i)) H := q
        cases lo with
        | none =>
          refine ⟨_, rfl, rfl, _, rfl, ?_⟩
          refine ite2 (fun _ => ?_) (fun z => absurd (by decide) z)
          refine ⟨_, rfl, ?_⟩
          refine Eq.mpr (if_pos rfl) ?_
          refine ⟨_, rfl, rfl, _, rfl, ?_⟩
          cases hi with
          | none =>
            refine ite2 (fun _ => ?_) (fun z => absurd (by decide) z)
            exact q2
          | some h =>
            refine ite2 (fun z => nomatch of_decide_eq_true z) (fun _ => ?_)
            exact ⟨_, rfl, _, rfl, _, _, rfl, rfl, q2⟩
        | some l =>
          refine ⟨_, rfl, rfl, _, rfl, ?_⟩
          refine ite2 (fun z => nomatch of_decide_eq_true z) (fun _ => ?_)
          refine ⟨_, rfl, _, rfl, _, _, rfl, rfl, _, rfl, ?_⟩
          cases hi with
          | none =>
            have q3 : Q (.bl (decide (l ≤ i) && true)) H := q2
            refine ite2 (fun z => ?_) (fun z => ?_)
            · refine ⟨_, rfl, rfl, _, rfl, ?_⟩
              refine ite2 (fun _ => ?_) (fun z => absurd (by decide) z)
              rw [z] at q3
              exact q3
            · rw [Bool.eq_false_iff.mpr z] at q3
              exact q3
          | some h =>
            have q3 : Q (.bl (decide (l ≤ i) && decide (i ≤ h))) H := q2
            refine ite2 (fun z => ?_) (fun z => ?_)
            · refine ⟨_, rfl, rfl, _, rfl, ?_⟩
              refine ite2 (fun z => nomatch of_decide_eq_true z) (fun _ => ?_)
              rw [z, Bool.true_and] at q3
              exact ⟨_, rfl, _, rfl, _, _, rfl, rfl, q3⟩
            · rw [Bool.eq_false_iff.mpr z, Bool.false_and] at q3
              exact q3
end
end Hd
set_option Elab.async false
set_option linter.all false
set_option maxRecDepth 100000
set_option maxHeartbeats 1000000
namespace Hd
open PySem PySem.Spec PyProof.Rows L2 Gk
/-! ### the heap without the hand -/
theorem del_but {a : Addr} {H H' : Hp} (b : But a H H') : Same (delH H a) (delH H' a) := fun x o h => by
  by_cases e : x = a
  · rw [e, delH_same] at h
    cases h
  · rw [delH_ne e] at h ⊢
    exact b x o e h
theorem del_same {a : Addr} {H : Hp} : Same (delH H a) H := fun x o h => by
  by_cases e : x = a
  · rw [e, delH_same] at h
    cases h
  · rw [delH_ne e] at h
    exact h
theorem HandAt.same {H H' : Hp} {a c : Addr} (h : HandAt H a c) (s : Same H H') : HandAt H' a c := by
  obtain ⟨cs, i, r, t, h1, h2, h3⟩ := h
  exact ⟨cs, i, r, t, s _ _ h1, s _ _ h2, h3⟩
theorem HandAt.there {H : Hp} {a c p : Addr} (h : HandAt H a c) (n : H p = none) : p ≠ a := by
  obtain ⟨cs, i, r, t, h1, _⟩ := h
  exact Ne.symm (ne_of_none h1 n)
/-! ### what is shown in short -/
theorem showy_int {i : Int} (h : i.natAbs < 10 ^ 12) : Showy 0 0 (.int i) where
  sh := by
    have e : i.natAbs.log2 < 1920 := by
      by_cases z : i.natAbs = 0
      · rw [z]; decide
      · have := (Nat.log2_lt z (k := 64)).mpr (Nat.lt_trans h (by decide))
        omega
    simp only [PyData.showable, decide_eq_true e]
  nd := by simp only [PyData.hasDict]
  dp := by simp only [PyData.depth]; exact Nat.le_refl 0
  lf := by simp only [PyData.leavesShort, decide_eq_true (PyData.shown_int_le h)]
  bk := by simp only [PyData.bulk]; exact Nat.le_refl 0
theorem showy_none : Showy 0 0 .none := ⟨by simp only [PyData.showable], by simp only [PyData.hasDict], by simp only [PyData.depth]; exact Nat.le_refl 0, by simp only [PyData.leavesShort], by simp only [PyData.bulk]; exact Nat.le_refl 0⟩
theorem showy_bool (b : Bool) : Showy 0 0 (.bool b) := ⟨by simp only [PyData.showable], by simp only [PyData.hasDict], by simp only [PyData.depth]; exact Nat.le_refl 0, by simp only [PyData.leavesShort], by simp only [PyData.bulk]; exact Nat.le_refl 0⟩
theorem showy_str {x : Str} (h : (x.cps.toList.all fun c => decide (c < 16 ^ 8)) = true) (hl : x.cps.size ≤ 100) : Showy 0 100 (.str x) :=
  ⟨by simp only [PyData.showable], by simp only [PyData.hasDict], by simp only [PyData.depth]; exact Nat.le_refl 0, by simp only [PyData.leavesShort]; exact h, by simp only [PyData.bulk]; exact hl⟩
section
variable {K : PySem.W.Frag} {σ : L2.St} {H : Hp} {a c : Addr}
/-- a draw -/
theorem tk {Q : VK} {E : XK} {te tm : TE} {m : Int} (hA : HandAt H a c) (h1 : ∀ R : VK, R (.ref a) H → te σ H R) (hm : ∀ R : VK, R (.int m) H → tm σ H R) (m0 : 0 < m) (m9 : m < 2 ^ 4000)
    (k : ∀ (n : Int) (H' : Hp), 0 ≤ n → n < m → HandAt H' a c → But a H H' → Q (.int n) H') : tCall spTake [] E (tCons te (tCons tm tNil)) σ H Q :=
  h1 _ (hm _ ⟨a, c, m, rfl, hA, m0, m9, k⟩)
theorem one_pow {R : VK} {x y : Int} (h0 : 0 ≤ y) (h1 : y ≤ 1000000) (h2 : x.natAbs < 2 ^ 64) (r : R (.int (x ^ y.toNat)) H) : tOp (rI CPow fun i j => .int (i ^ j.toNat)) (tC (.int x)) (tC (.int y)) σ H R :=
  ⟨_, _, rfl, rfl, ⟨h0, h1, h2⟩, r⟩
/-- [draw, 'text', (m, draw), x, -1 - draw][draw] -/
theorem pick {Q : VK} {E1 E2 E3 E4 : XK} {s : Str} {m : Int} {x : V} {dx : PyData} (hσ : σ[1]? = some (some (.ref a))) (hA : HandAt H a c) (hs : Showy 6 400 (.str s)) (hx : ∀ H, Dp K H x dx) (hdx : Showy 6 400 dx) (hm : Showy 0 0 (.int m))
    (k : ∀ (v : V) (d : PyData) (H' : Hp), Dp K (delH H' a) v d → Showy 6 400 d → HandAt H' a c → But a H H' → Q v H') :
    tOp (rIxL K) (tLst (tCons (tCall spTake [] E1 (tCons (tVar 1) (tCons (tOp (rI CPow fun i j => .int (i ^ j.toNat)) (tC (.int 10)) (tC (.int 9))) tNil)))
      (tCons (tC (.str s)) (tCons (tTup (tCons (tC (.int m)) (tCons (tCall spTake [] E2 (tCons (tVar 1) (tCons (tC (.int 9)) tNil))) tNil)))
      (tCons (tC x) (tCons (tOp (rI0 fun i j => .int (i - j)) (tUn (rU fun i => .int (-i)) (tC (.int 1))) (tCall spTake [] E3 (tCons (tVar 1) (tCons (tC (.int 99)) tNil)))) tNil))))))
      (tCall spTake [] E4 (tCons (tVar 1) (tCons (tC (.int 5)) tNil))) σ H Q := by
  have v1 : ∀ (H : Hp) (R : VK), R (.ref a) H → tVar 1 σ H R := fun H R h => ⟨_, hσ, h⟩
  refine tk (m := 10 ^ 9) hA (v1 _) (fun R h => one_pow (by decide) (by decide) (by decide) h) (by decide) (by decide) fun n1 H1 a1 b1 A1 B1 => ?_
  refine tk (m := 9) A1 (v1 _) (fun R h => h) (by decide) (by decide) fun n2 H2 a2 b2 A2 B2 => ⟨(by show 2 ≤ sizeLine; decide), fun p hp => ?_⟩
  have np := A2.there hp
  have A3 := A2.same (same_upd' (o := .tup [.int m, .int n2]) hp)
  refine ⟨_, rfl, tk (m := 99) A3 (v1 _) (fun R h => h) (by decide) (by decide) fun n3 H4 a3 b3 A4 B4 => ⟨_, _, rfl, rfl, (by show 5 ≤ sizeLine; decide), fun q hq => ?_⟩⟩
  have nq := A4.there hq
  have A5 := A4.same (same_upd' (o := .lst [.int n1, .str s, .ref p, x, .int (-1 - n3)]) hq)
  refine tk (m := 5) A5 (v1 _) (fun R h => h) (by decide) (by decide) fun n4 H6 a4 b4 A6 B6 => ?_
  have hq6 : H6 q = some (.lst [.int n1, .str s, .ref p, x, .int (-1 - n3)]) := B6 q _ nq upd_same
  have hp4 : H4 p = some (.tup [.int m, .int n2]) := B4 p _ np upd_same
  have hp6 : H6 p = some (.tup [.int m, .int n2]) := B6 p _ np (by rw [upd_ne (ne_of_none hp4 hq)]; exact hp4)
  have BB : But a H H6 := fun b o hb z => by
    have z2 := B2 b o hb (B1 b o hb z)
    have z4 := B4 b o hb (by rw [upd_ne (ne_of_none z2 hp)]; exact z2)
    exact B6 b o hb (by rw [upd_ne (ne_of_none z4 hq)]; exact z4)
  have go : ∀ (v : V) (d : PyData), ([.int n1, .str s, .ref p, x, .int (-1 - n3)] : List V)[n4.toNat]? = some v → Dp K (delH H6 a) v d → Showy 6 400 d → rIxL K (.ref q) (.int n4) H6 Q := fun v d hv dp sy =>
    ⟨q, _, n4, v, rfl, rfl, SqL.of hq6, at_item a4 hv, k v d H6 dp sy A6 BB⟩
  have c5 : n4 = 0 ∨ n4 = 1 ∨ n4 = 2 ∨ n4 = 3 ∨ n4 = 4 := by omega
  rcases c5 with e | e | e | e | e
  · subst e
    exact go _ (.int n1) rfl (.int n1) ((showy_int (by omega)).up (by decide) (by decide))
  · subst e
    exact go _ (.str s) rfl (.str s) hs
  · subst e
    refine go _ (.tuple [.int m, .int n2]) rfl (.tup (Or.inl (Or.inl (by rw [delH_ne np]; exact hp6))) (.cons (.int m) (.cons (.int n2) .nil))) ?_
    exact (Showy.pair hm (showy_int (i := n2) (by omega))).up (by decide) (by decide)
  · subst e
    exact go _ dx rfl (hx _) hdx
  · subst e
    exact go _ (.int (-1 - n3)) rfl (.int _) ((showy_int (by omega)).up (by decide) (by decide))
end
/-! ### lists of truth values as data -/
theorem dp_bools {K : PySem.W.Frag} {H : Hp} : ∀ bs : List Bool, DpAll K H (bs.map V.bl) (bs.map PyData.bool)
  | [] => .nil
  | b :: bs => .cons (.bl b) (dp_bools bs)
theorem lay_bools : ∀ bs : List Bool, PyData.canLayAll0 (bs.map PyData.bool) = true ∧ PyData.depthAll (bs.map PyData.bool) = 0
  | [] => by simp [PyData.canLayAll0, PyData.depthAll]
  | b :: bs => by
    obtain ⟨h1, h2⟩ := lay_bools bs
    simp [PyData.canLayAll0, PyData.canLay0, PyData.depthAll, PyData.depth, h1, h2]
theorem shaped_bools (bs : List Bool) : SeqAt.shaped (.list (bs.map PyData.bool)) = true := by
  obtain ⟨h1, h2⟩ := lay_bools bs
  show (PyData.canLay0 (.list (bs.map PyData.bool)) && decide (PyData.depth (.list (bs.map PyData.bool)) ≤ 64)) = true
  rw [Bool.and_eq_true]
  refine ⟨by simp only [PyData.canLay0]; exact h1, decide_eq_true ?_⟩
  simp only [PyData.depth]
  omega
theorem eqv_bools : ∀ bs : List Bool, PyData.eqvAll (bs.map PyData.bool) (bs.map PyData.bool) = true
  | [] => by simp [PyData.eqvAll]
  | b :: bs => by
    have h := eqv_bools bs
    simp [PyData.eqvAll, PyData.eqv, h]
/-- [.. for j in range(n)], each item reckoned -/
theorem lc_rng {te : TE} {vs : List Nat} {j : Nat} {σ : L2.St} {H1 : Hp} {Q : VK} {n : Nat} (f : Nat → V) (hw : ∀ x, wipe ((wipe σ vs).set j (some x)) vs = wipe σ vs) (hn : n ≤ 1000)
    (he : ∀ (i : Nat) (H' : Hp) (R : VK), i < n → Same H1 H' → (∀ H4, Same H' H4 → R (f i) H4) → te ((wipe σ vs).set j (some (.int ((0 : Int) + (i : Int))))) H' R)
    (k : ∀ (D : Addr) (H' : Hp), Same H1 H' → H1 D = none → H' D = some (.lst ((List.range n).map f)) → Q (.ref D) H')
    (D : Addr) (hD : H1 D = none) : ∃ W : Nat → Nat → Hp → Prop, (∃ m, W 0 m (upd H1 D (.lst []))) ∧ ∀ i m H, W i m H →
      ((Itr 0 n).stop i H ∧ Q (.ref D) H) ∨ ((Itr 0 n).go i H ∧ ∃ Nx : Hp → Prop, (∀ H', Nx H' → ∃ m', m' < m ∧ W (i + 1) m' H') ∧ ∀ x H', (Itr 0 n).yld i H x H' → gName j x (wipe σ vs) H' fun σ2 H2 => wipe σ2 vs = wipe σ vs ∧ tYes σ2 H2 fun b H3 =>
        if b = true then te σ2 H3 fun y H4 => ∃ acc, H4 D = some (.lst acc) ∧ acc.length < sizeLine ∧ Nx (upd H4 D (.lst (acc ++ [y]))) else Nx H3) := by
  refine lc_range (fun i H => Same H1 H ∧ H D = some (.lst ((List.range i).map f))) ⟨same_upd' hD, upd_same⟩ ?_ fun H z => k D H z.1 hD z.2
  rintro i H hi ⟨s, hd⟩
  refine ⟨hw _, ?_⟩
  refine he i H _ hi s fun H4 s4 => ⟨_, s4 _ _ hd, ?_, fun b o e => ?_, ?_⟩
  · rw [List.length_map, List.length_range]
    exact small1000 (by omega)
  · rw [upd_ne (ne_of_none e hD)]
    exact s4 b o (s b o e)
  · rw [upd_same, List.range_succ, List.map_append]
    rfl
theorem rng_ev {te : TE} {vs : List Nat} {j n : Nat} {σ : L2.St} {H : Hp} {R : VK} {m : Int} (f : Nat → V) (hm : m = (n : Int)) (hw : ∀ x, wipe ((wipe σ vs).set j (some x)) vs = wipe σ vs) (hn : n ≤ 1000)
    (he : ∀ (i : Nat) (H' : Hp) (R : VK), i < n → Same H H' → (∀ H4, Same H' H4 → R (f i) H4) → te ((wipe σ vs).set j (some (.int ((0 : Int) + (i : Int))))) H' R)
    (k : ∀ (D : Addr) (H' : Hp), Same H H' → H D = none → H' D = some (.lst ((List.range n).map f)) → R (.ref D) H') : tLc (iRng1 (tCons (tC (.int m)) tNil)) (gName j) tYes te vs σ H R := by
  subst hm
  refine ⟨_, rfl, by omega, by omega, ?_⟩
  have e : ((n : Int)).toNat = n := by omega
  rw [e]
  exact fun D hD => lc_rng (Q := R) f hw hn he k D hD
end Hd
set_option Elab.async false
set_option linter.all false
set_option maxRecDepth 100000
set_option maxHeartbeats 1000000
namespace Hd
open PySem PySem.Spec PyProof.Rows L2 Gk
/-! ### data beside the hand -/
theorem del_sm {a : Addr} {H H' : Hp} (s : Same H H') : Same (delH H a) (delH H' a) := del_but (But.of s)
theorem dh_same {K : PySem.W.Frag} {a : Addr} {H H' : Hp} {v : V} {d : PyData} (s : Same H H') (h : Dq K (delH H a) v d) : Dq K (delH H' a) v d := dq_same (del_sm s) _ _ h
theorem dh_but {K : PySem.W.Frag} {a : Addr} {H H' : Hp} {v : V} {d : PyData} (s : But a H H') (h : Dq K (delH H a) v d) : Dq K (delH H' a) v d := dq_same (del_but s) _ _ h
theorem dh_full {K : PySem.W.Frag} {a : Addr} {H : Hp} {v : V} {d : PyData} (h : Dq K (delH H a) v d) : Dq K H v d := dq_same del_same _ _ h
theorem dhA_same {K : PySem.W.Frag} {a : Addr} {H H' : Hp} {v : List V} {d : List PyData} (s : Same H H') (h : DqAll K (delH H a) v d) : DqAll K (delH H' a) v d := dqAll_same (del_sm s) _ _ h
theorem dhA_but {K : PySem.W.Frag} {a : Addr} {H H' : Hp} {v : List V} {d : List PyData} (s : But a H H') (h : DqAll K (delH H a) v d) : DqAll K (delH H' a) v d := dqAll_same (del_but s) _ _ h
theorem dhA_full {K : PySem.W.Frag} {a : Addr} {H : Hp} {v : List V} {d : List PyData} (h : DqAll K (delH H a) v d) : DqAll K H v d := dqAll_same del_same _ _ h
/-- a new object beside the hand -/
theorem del_new {a p : Addr} {H : Hp} {o : HO} (n : p ≠ a) : delH (upd H p o) a p = some o := by
  rw [delH_ne n, upd_same]
theorem del_at {a p : Addr} {H : Hp} {o : HO} (h : H p = some o) (n : p ≠ a) : delH H a p = some o := by rw [delH_ne n]; exact h
/-- a thing of another kind -/
def rids : List PyData := [.none, .str "ab", .bool true, .dict [(.int 0, .int 1)], .tuple [.int 1], .bool false]
def spRid (K : PySem.W.Frag) : Sp := fun vs H Q _ => ∃ a c : Addr, vs = [.ref a] ∧ HandAt H a c ∧
  ∀ (v : V) (d : PyData) (H' : Hp), d ∈ rids → Dq K (delH H' a) v d → HandAt H' a c → But a H H' → Q v H'
/-- a list or a tuple of the same items, drawn -/
def spRow (K : PySem.W.Frag) : Sp := fun vs H Q _ => ∃ (a c : Addr) (v : V) (d : PyData) (ds : List PyData), vs = [.ref a, v] ∧ HandAt H a c ∧ Dq K (delH H a) v d ∧ (d = .list ds ∨ d = .tuple ds) ∧
  ∀ (v' : V) (d' : PyData) (H' : Hp), (d' = .list ds ∨ d' = .tuple ds) → Dq K (delH H' a) v' d' → HandAt H' a c → But a H H' → Q v' H'
theorem sc22 : FnScope ["_law_hand_here"] ["_law_hand_here"] (defScope (topS 22)) := ⟨rfl, rfl, rfl, by decide +kernel, rfl, by decide +kernel, by decide +kernel⟩
theorem sc26 : FnScope ["_law_hand_here", "_law_items"] ["_law_hand_here", "_law_items"] (defScope (topS 26)) := ⟨rfl, rfl, rfl, by decide +kernel, rfl, by decide +kernel, by decide +kernel⟩
section
variable {P : Program} {w : World} {K : PySem.W.Frag} {mg : Str → Option Value} {base : Heap}
theorem ok_un {f : Addr} {fd : FuncData} (F : Fun K "unshared" "unshared" (topS 7) f fd) (T : TD mg) : FnOk P w K mg base CX0 1 f fd ["thing"] (spUn K) := by
  refine F.ok sc7 (fun vs H Q E h => ?_) (fun cdv A outer s H vs Q E hr h => ?_)
  · obtain ⟨v, d, rfl, _⟩ := h
    rfl
  · obtain ⟨v, d, rfl, hd, q⟩ := h
    refine ⟨_, pss_one (ps_ret (pe_ifExp (pt_val (pe_callB call_isD (by rfl) T.isi (by decide +kernel) (pa_cons (pv 0) (pa_cons (pe_bltn (v := .ty "list") (by rfl) T.list (by decide +kernel) rfl) pa_nil))))
      (pe_callTy call_tuple_of (by rfl) T.tuple (by decide +kernel) (pa_cons (pv 0) pa_nil)) (pv 0))), ?_⟩
    refine ⟨_, rfl, v, d, "list", rfl, rfl, hd, _, rfl, ?_⟩
    refine ite2 (fun h1 => ?_) (fun h1 => ?_)
    · cases d with
      | list ds =>
        cases hd with
        | lst hs ha =>
          refine ⟨_, rfl, _, _, rfl, .inl ⟨hs, fun l hl => ?_⟩⟩
          exact q _ _ (same_upd' hl) (.tup (.inl (.inl upd_same)) (dqAll_same (same_upd' hl) _ _ ha))
      | none => exact absurd (show isT "list" "NoneType" = true from h1) (by decide +kernel)
      | bool _ => exact absurd (show isT "list" "bool" = true from h1) (by decide +kernel)
      | int _ => exact absurd (show isT "list" "int" = true from h1) (by decide +kernel)
      | str _ => exact absurd (show isT "list" "str" = true from h1) (by decide +kernel)
      | tuple _ => exact absurd (show isT "list" "tuple" = true from h1) (by decide +kernel)
      | dict _ => exact absurd (show isT "list" "dict" = true from h1) (by decide +kernel)
    · have e : unD d = d := by
        cases d with
        | list ds => exact absurd (show isT "list" "list" = true by decide +kernel) h1
        | _ => rfl
      refine ⟨_, rfl, q _ _ (Same.refl H) ?_⟩
      rw [e]
      exact hd
theorem ok_rid {f fT fM : Addr} {fd dT dM : FuncData} (F : Fun K "_law_rid" "_law_rid" (topS 22) f fd) (T : TB mg) (FT : Fun K "_law_take" "_law_take" sTake fT dT) (gT : mg "_law_take" = some (.ref fT))
    (FM : Fun K "_law_mixed" "_law_mixed" sMixed fM dM) (gM : mg "_law_mixed" = some (.ref fM)) : FnOk P w K mg base CX0 3 f fd ["_law_hand_here"] (spRid K) := by
  have GT : FnOk P w K mg base CX0 2 fT dT ["_law_hand_here", "_law_many_here"] spTake := ok_take FT T FM gM
  have bT : Binds K dT ["_law_hand_here", "_law_many_here"] [] := FT.binds fun _ _ _ _ _ _ us hl => match us, hl with | [_, _], _ => rfl
  refine F.ok sc22 (fun vs H Q E h => ?_) (fun cdv A outer s H vs Q E hr h => ?_)
  · obtain ⟨a, c, rfl, _⟩ := h
    rfl
  · obtain ⟨a, c, rfl, hA, q⟩ := h
    refine ⟨_, pss_one (ps_ret (pe_ix ix_tup (pe_tup (pa_cons pe_non (pa_cons pe_str (pa_cons pe_bl (pa_cons (pe_disp (pps_cons pe_int pe_int pps_nil) (by rfl) (by rfl) (fun z => by cases z) (by decide))
      (pa_cons (pe_tup (pa_cons pe_int pa_nil)) (pa_cons pe_bl pa_nil)))))))
      (pe_call GT hr rfl gT FT.kp bT .nil pass0 (pa_cons (pv 0) (pa_cons pe_int pa_nil))) (fun _ _ => rfl))), ?_⟩
    intro p hp
    have np := hA.there hp
    refine ⟨upd_same, [(Sum.inl 0, .int 1)], rfl, by decide, ?_⟩
    rw [upd_upd]
    refine ⟨by decide, fun t ht => ?_⟩
    have A1 := hA.same (same_upd' (o := .dK (mergeK [] [(Sum.inl 0, .int 1)])) hp)
    have nt := A1.there ht
    refine ⟨(by show 6 ≤ sizeLine; decide), fun u hu => ?_⟩
    have A2 := A1.same (same_upd' (o := .tup [.int 1]) ht)
    have nu := A2.there hu
    have A3 := A2.same (same_upd' (o := .tup [.non, .str "ab", .bl true, .ref p, .ref t, .bl false]) hu)
    refine ⟨_, rfl, a, c, 6, rfl, A3, by decide, by decide, fun n H6 n0 n6 A6 B6 => ?_⟩
    have hu6 : H6 u = some (.tup [.non, .str "ab", .bl true, .ref p, .ref t, .bl false]) := B6 u _ nu upd_same
    have ht6 : H6 t = some (.tup [.int 1]) := B6 t _ nt (by rw [upd_ne (ne_of_none upd_same hu)]; exact upd_same)
    have hp6 : H6 p = some (.dK [(Sum.inl 0, .int 1)]) := B6 p _ np (by
      have z : upd H p (.dK (mergeK [] [(Sum.inl 0, .int 1)])) p = some (.dK [(Sum.inl 0, .int 1)]) := upd_same
      have z2 : upd (upd H p (.dK (mergeK [] [(Sum.inl 0, .int 1)]))) t (.tup [.int 1]) p = some (.dK [(Sum.inl 0, .int 1)]) := by
        rw [upd_ne (ne_of_none z ht)]
        exact z
      rw [upd_ne (ne_of_none z2 hu)]
      exact z2)
    have BB : But a H H6 := fun b o hb z => B6 b o hb (same_upd' hu b o (same_upd' ht b o (same_upd' hp b o z)))
    have go : ∀ (v : V) (d : PyData), ([.non, .str "ab", .bl true, .ref p, .ref t, .bl false] : List V)[n.toNat]? = some v → d ∈ rids → Dq K (delH H6 a) v d → rIxT K (.ref u) (.int n) H6 Q := fun v d hv hm hd =>
      ⟨u, _, n, v, rfl, rfl, SqT.of hu6, at_item n0 hv, q v d H6 hm hd A6 BB⟩
    have c6 : n = 0 ∨ n = 1 ∨ n = 2 ∨ n = 3 ∨ n = 4 ∨ n = 5 := by omega
    rcases c6 with e | e | e | e | e | e
    · subst e
      exact go _ .none rfl (by simp [rids]) .non
    · subst e
      exact go _ (.str "ab") rfl (by simp [rids]) (.str _)
    · subst e
      exact go _ (.bool true) rfl (by simp [rids]) (.bl _)
    · subst e
      exact go _ (.dict [(.int 0, .int 1)]) rfl (by simp [rids]) (.dct (del_at hp6 np) (.cons (.int 0) .nil) (.cons (.int 1) .nil))
    · subst e
      exact go _ (.tuple [.int 1]) rfl (by simp [rids]) (.tup (.inl (.inl (del_at ht6 nt))) (.cons (.int 1) .nil))
    · subst e
      exact go _ (.bool false) rfl (by simp [rids]) (.bl _)
end
end Hd
set_option Elab.async false
set_option linter.all false
set_option maxRecDepth 100000
set_option maxHeartbeats 1000000
namespace Hd
open PySem PySem.Spec PyProof.Rows L2 Gk
/-- one more than the greatest; 0 of none -/
def manyI (ns : List Int) : Int := maxI (-1) ns + 1
def spMany (K : PySem.W.Frag) : Sp := fun vs H Q _ => ∃ (b : Addr) (ns : List Int), vs = [.ref b] ∧ SqS K H b (ns.map V.int) ∧ Q (.int (manyI ns)) H
theorem sc20 : FnScope ["_law_letters"] ["_law_letters"] (defScope (topS 20)) := ⟨rfl, rfl, rfl, by decide +kernel, rfl, by decide +kernel, by decide +kernel⟩
section
variable {P : Program} {w : World} {K : PySem.W.Frag} {mg : Str → Option Value} {base : Heap}
theorem ok_many {f : Addr} {fd : FuncData} (F : Fun K "_law_many" "_law_many" (topS 20) f fd) (T : TD mg) : FnOk P w K mg base CX0 1 f fd ["_law_letters"] (spMany K) := by
  refine F.ok sc20 (fun vs H Q E h => ?_) (fun cdv A outer s H vs Q E hr h => ?_)
  · obtain ⟨b, ns, rfl, _⟩ := h
    rfl
  · obtain ⟨b, ns, rfl, hs, q⟩ := h
    refine ⟨_, pss_one (ps_ret (pe_ifExp (pt_truth (pv 0) (by intro _; rfl)) (pe_op op_add (pe_callB (cr_maxS rfl hr.units) (by rfl) T.max (by decide +kernel) (pa_cons (pv 0) pa_nil)) pe_int) pe_int)), ?_⟩
    refine ⟨_, rfl, !(ns.map V.int).isEmpty, ?_, ?_⟩
    · rcases hs with hs | hs
      · exact .inl ⟨_, hs, rfl⟩
      · exact .inr (.inl ⟨_, hs, rfl⟩)
    · cases ns with
      | nil =>
        refine ite2 (fun z => nomatch z) (fun _ => ?_)
        exact q
      | cons n ns =>
        refine ite2 (fun _ => ?_) (fun z => absurd rfl z)
        exact ⟨_, rfl, b, n, ns, rfl, hs, _, _, rfl, rfl, q⟩
theorem ok_row {f fT fM : Addr} {fd dT dM : FuncData} (F : Fun K "_law_row" "_law_row" (topS 26) f fd) (T : TD mg) (FT : Fun K "_law_take" "_law_take" sTake fT dT) (gT : mg "_law_take" = some (.ref fT))
    (FM : Fun K "_law_mixed" "_law_mixed" sMixed fM dM) (gM : mg "_law_mixed" = some (.ref fM)) : FnOk P w K mg base CX0 3 f fd ["_law_hand_here", "_law_items"] (spRow K) := by
  have GT : FnOk P w K mg base CX0 2 fT dT ["_law_hand_here", "_law_many_here"] spTake := ok_take FT T.toTB FM gM
  have bT : Binds K dT ["_law_hand_here", "_law_many_here"] [] := FT.binds fun _ _ _ _ _ _ us hl => match us, hl with | [_, _], _ => rfl
  refine F.ok sc26 (fun vs H Q E h => ?_) (fun cdv A outer s H vs Q E hr h => ?_)
  · obtain ⟨a, c, v, d, ds, rfl, _⟩ := h
    rfl
  · obtain ⟨a, c, v, d, ds, rfl, hA, hd, e, q⟩ := h
    refine ⟨_, pss_one (ps_ret (pe_ifExp (pt_truth (pe_call GT hr rfl gT FT.kp bT .nil pass0 (pa_cons (pv 0) (pa_cons pe_int pa_nil))) (by intro _; rfl))
      (pe_callTy call_list_of (by rfl) T.list (by decide +kernel) (pa_cons (pv 1) pa_nil)) (pe_callTy call_tuple_of (by rfl) T.tuple (by decide +kernel) (pa_cons (pv 1) pa_nil)))), ?_⟩
    refine ⟨_, rfl, a, c, 2, rfl, hA, by decide, by decide, fun n H1 n0 n2 A1 B1 => ⟨n != 0, rfl, ?_⟩⟩
    have hd1 := dh_but B1 hd
    obtain ⟨b, xs, hs, hv, hx⟩ : ∃ b xs, (SqL K H1 b xs ∨ (SqT K H1 b xs ∧ d = .tuple ds)) ∧ v = .ref b ∧ DqAll K (delH H1 a) xs ds := by
      rcases e with rfl | rfl
      · cases hd1 with
        | lst h1 h2 => exact ⟨_, _, .inl (Same.seq del_same h1), rfl, h2⟩
      · cases hd1 with
        | tup h1 h2 => exact ⟨_, _, .inr ⟨sqT_same del_same h1, rfl⟩, rfl, h2⟩
    subst hv
    refine ite2 (fun _ => ?_) (fun _ => ?_)
    · refine ⟨_, rfl, b, xs, rfl, hs.imp id And.left, fun l hl => ?_⟩
      have nl := A1.there hl
      have sm : Same H1 (upd H1 l (.lst xs)) := same_upd' hl
      exact q _ _ _ (.inl rfl) (.lst (.inl (.inl (del_new nl))) (dhA_same sm hx)) (A1.same sm) (fun x o hb z => sm _ _ (B1 x o hb z))
    · rcases hs with hs | ⟨hs, e2⟩
      · refine ⟨_, rfl, b, xs, rfl, .inl ⟨hs, fun l hl => ?_⟩⟩
        have nl := A1.there hl
        have sm : Same H1 (upd H1 l (.tup xs)) := same_upd' hl
        exact q _ _ _ (.inr rfl) (.tup (.inl (.inl (del_new nl))) (dhA_same sm hx)) (A1.same sm) (fun x o hb z => sm _ _ (B1 x o hb z))
      · refine ⟨_, rfl, b, xs, rfl, .inr ⟨hs, ?_⟩⟩
        exact q _ _ _ (.inr e2) hd1 A1 B1
end
end Hd
set_option Elab.async false
set_option linter.all false
set_option maxRecDepth 100000
set_option maxHeartbeats 1000000
namespace Hd
open PySem PySem.Spec PyProof.Rows L2 Gk
theorem fold_ge : ∀ (ns : List Int) (n : Int), n ≤ ns.foldl max n
  | [], n => Int.le_refl n
  | m :: ns, n => Int.le_trans (Int.le_max_left n m) (fold_ge ns (max n m))
theorem fold_le {B : Int} : ∀ (ns : List Int) (n : Int), n ≤ B → (∀ x ∈ ns, x ≤ B) → ns.foldl max n ≤ B
  | [], n, h, _ => h
  | m :: ns, n, h, k => fold_le ns (max n m) (Int.max_le.mpr ⟨h, k m List.mem_cons_self⟩) fun x hx => k x (List.mem_cons_of_mem _ hx)
theorem fold_mem : ∀ (ns : List Int) (n x : Int), x ∈ ns → x ≤ ns.foldl max n
  | m :: ns, n, x, h => by
    rcases List.mem_cons.mp h with e | e
    · subst e
      exact Int.le_trans (Int.le_max_right n x) (fold_ge ns (max n x))
    · exact fold_mem ns (max n m) x e
theorem many_ge {ns : List Int} (h : ∀ x ∈ ns, 0 ≤ x) : 0 ≤ manyI ns := by
  unfold manyI
  cases ns with
  | nil => decide
  | cons n ns =>
    have h1 := fold_ge ns n
    have h2 := h n List.mem_cons_self
    show 0 ≤ ns.foldl max n + 1
    omega
theorem many_le {ns : List Int} {B : Int} (b : 0 ≤ B) (h : ∀ x ∈ ns, x < B) : manyI ns ≤ B := by
  unfold manyI
  cases ns with
  | nil => exact b
  | cons n ns =>
    have h2 : ns.foldl max n ≤ B - 1 := fold_le ns n (by have := h n List.mem_cons_self; omega) fun x hx => by have := h x (List.mem_cons_of_mem _ hx); omega
    show ns.foldl max n + 1 ≤ B
    omega
/-- a grouping as it is drawn: as many as asked for, each from 0 and below how many there are -/
def Grown (gs : List Int) : Prop := ∀ x ∈ gs, 0 ≤ x ∧ x < gs.length
def spGrouping : Sp := fun vs H Q _ => ∃ (a c : Addr) (m : Int), vs = [.ref a, .int m] ∧ HandAt H a c ∧ 0 ≤ m ∧ m ≤ 6 ∧
  ∀ (gs : List Int) (D : Addr) (H' : Hp), Grown gs → (gs.length : Int) = m → H D = none → D ≠ a → H' D = some (.lst (gs.map V.int)) → HandAt H' a c → But a H H' → Q (.ref D) H'
theorem sc21 : FnScope ["_law_hand_here", "_law_many_here", "_law_groups", "_law_at"] ["_law_hand_here", "_law_many_here"] (defScope (topS 21)) := ⟨rfl, rfl, rfl, by decide +kernel, rfl, by decide +kernel, by decide +kernel⟩
section
variable {P : Program} {w : World} {K : PySem.W.Frag} {mg : Str → Option Value} {base : Heap}
theorem ok_grouping {f fT fM fG : Addr} {fd dT dM dG : FuncData} (F : Fun K "_law_grouping" "_law_grouping" (topS 21) f fd) (T : TD mg) (FT : Fun K "_law_take" "_law_take" sTake fT dT) (gT : mg "_law_take" = some (.ref fT))
    (FM : Fun K "_law_mixed" "_law_mixed" sMixed fM dM) (gM : mg "_law_mixed" = some (.ref fM)) (FG : Fun K "_law_many" "_law_many" (topS 20) fG dG) (gG : mg "_law_many" = some (.ref fG)) :
    FnOk P w K mg base CX0 3 f fd ["_law_hand_here", "_law_many_here"] spGrouping := by
  have GT : FnOk P w K mg base CX0 2 fT dT ["_law_hand_here", "_law_many_here"] spTake := ok_take FT T.toTB FM gM
  have bT : Binds K dT ["_law_hand_here", "_law_many_here"] [] := FT.binds fun _ _ _ _ _ _ us hl => match us, hl with | [_, _], _ => rfl
  have GG : FnOk P w K mg base CX0 1 fG dG ["_law_letters"] (spMany K) := ok_many FG T
  have bG : Binds K dG ["_law_letters"] [] := FG.binds fun _ _ _ _ _ _ us hl => match us, hl with | [_], _ => rfl
  refine F.ok sc21 (fun vs H Q E h => ?_) (fun cdv A outer s H vs Q E hr h => ?_)
  · obtain ⟨a, c, m, rfl, _⟩ := h
    rfl
  · obtain ⟨a, c, m, rfl, hA, m0, m6, q⟩ := h
    have r1 := hr.mono (show 1 ≤ 2 by decide)
    refine ⟨_, pss_cons (ps_set (i := 2) sc21.nd rfl (.inl rfl) (pe_lst pa_nil))
      (pss_cons (ps_for PassesOwn.never rfl (pi_range1 rfl T.range (pa_cons (pv 1) pa_nil)) (pg_name (i := 3) sc21.nd rfl (Or.inl rfl))
        (pss_one (ps_expr (pe_bm PySem.F.plainAttrs_list PySem.F.slot_list_append PySem.F.type_list_append mt_append (pv 2)
          (pa_cons (pe_call GT hr rfl gT FT.kp bT .nil pass0 (pa_cons (pv 0) (pa_cons (pe_op op_add pe_int (pe_call GG r1 rfl gG FG.kp bG .nil pass0 (pa_cons (pv 2) pa_nil))) pa_nil))) pa_nil)))))
      (pss_one (ps_ret (pv 2)))), ?_⟩
    refine ⟨Nat.zero_le _, fun D hD => ?_⟩
    have nD := hA.there hD
    have A0 := hA.same (same_upd' (o := .lst []) hD)
    have B0 : But a H (upd H D (.lst [])) := But.of (same_upd' hD)
    refine ⟨_, rfl, _, rfl, by omega, by omega, for_range (fun i σ H1 => ∃ (x3 : Option V) (gs : List Int), σ = [some (.ref a), some (.int m), some (.ref D), x3] ∧ H1 D = some (.lst (gs.map V.int)) ∧ gs.length = i ∧
      (∀ x ∈ gs, 0 ≤ x ∧ x < i) ∧ HandAt H1 a c ∧ But a H H1) ⟨none, [], rfl, upd_same, rfl, fun x hx => (nomatch hx), A0, B0⟩ ?_ ?_⟩
    · rintro i σ H1 hi ⟨x3, gs, rfl, hg, ln, sm, A1, B1⟩
      have mg0 := many_ge fun x hx => (sm x hx).1
      have mg1 := many_le (B := i) (by omega) fun x hx => (sm x hx).2
      refine ⟨_, rfl, .inl ⟨rfl, _, SqL.of hg⟩, _, rfl, _, rfl, D, gs, rfl, .inl (SqL.of hg), _, _, rfl, rfl, a, c, _, rfl, A1, by omega, Int.lt_trans (show 1 + manyI gs < 100 by omega) (by decide), fun n H2 n0 n1 A2 B2 => ?_⟩
      have hg2 := B2 D _ nD hg
      refine ⟨D, _, _, rfl, rfl, hg2, ?_, ?_⟩
      · rw [List.length_map]
        exact small1000 (by omega)
      · refine ⟨some (.int (0 + (i : Int))), gs ++ [n], rfl, ?_, by rw [List.length_append, ln]; rfl, fun x hx => ?_, ?_, ?_⟩
        · rw [upd_same, List.map_append]
          rfl
        · rcases List.mem_append.mp hx with z | z
          · have := sm x z
            omega
          · rw [List.mem_singleton.mp z]
            omega
        · obtain ⟨cs, i1, r, t, h1, h2, h3, h4⟩ := A2
          have nc : c ≠ D := by
            intro z
            obtain ⟨cs0, i0, r0, t0, _, k2, _⟩ := hA
            rw [z, hD] at k2
            cases k2
          exact ⟨cs, i1, r, t, by rw [upd_ne (Ne.symm nD)]; exact h1, by rw [upd_ne nc]; exact h2, h3, h4⟩
        · intro b o hb z
          rw [upd_ne (ne_of_none z hD)]
          exact B2 b o hb (B1 b o hb z)
    · rintro σ H1 ⟨x3, gs, rfl, hg, ln, sm, A1, B1⟩
      exact ⟨_, rfl, q gs D H1 (fun x hx => by have := sm x hx; omega) (by omega) hD nD hg A1 B1⟩
end
end Hd
set_option Elab.async false
set_option linter.all false
set_option maxRecDepth 100000
set_option maxHeartbeats 1000000
namespace Hd
open PySem PySem.Spec PyProof.Rows L2 Gk
theorem ixN_at {n : Nat} {i : Int} (h0 : 0 ≤ i) (h1 : i < n) : ixN n i = some i.toNat := by
  unfold ixN
  rw [if_pos h0, if_pos h1]
/-- what a list may become that is spoilt -/
def Spoilt (ds : List PyData) (od d' : PyData) : Prop := d' ∈ rids ∨ ∃ es, d' = .list es ∧ es.length ≤ ds.length + 1 ∧ ∀ e ∈ es, e ∈ ds ∨ e = od
def spSpoiled (K : PySem.W.Frag) : Sp := fun vs H Q _ => ∃ (a c b : Addr) (xs : List V) (ds : List PyData) (o : V) (od : PyData), vs = [.ref a, .ref b, o] ∧ HandAt H a c ∧ SqS K (delH H a) b xs ∧ DqAll K (delH H a) xs ds ∧
  Dq K (delH H a) o od ∧ ds.length ≤ 100 ∧ ∀ (v' : V) (d' : PyData) (H' : Hp), Spoilt ds od d' → Dq K (delH H' a) v' d' → HandAt H' a c → But a H H' → Q v' H'
theorem sc27 : FnScope ["_law_hand_here", "_law_things", "_law_odd", "_law_kind", "_law_rows", "_law_at", "_law_other", "_law_kept"] ["_law_hand_here", "_law_things", "_law_odd"] (defScope (topS 27)) := ⟨rfl, rfl, rfl, by decide +kernel, rfl, by decide +kernel, by decide +kernel⟩
/-- the hand stands beside a change of D -/
theorem HandAt.beside {H0 H1 : Hp} {a c D : Addr} {o : HO} (h0 : HandAt H0 a c) (hD : H0 D = none) (h1 : HandAt H1 a c) : HandAt (upd H1 D o) a c := by
  obtain ⟨cs, i1, r, t, k1, k2, k3⟩ := h1
  have nc : c ≠ D := by
    obtain ⟨cs0, i0, r0, t0, _, z2, _⟩ := h0
    exact ne_of_none z2 hD
  exact ⟨cs, i1, r, t, by rw [upd_ne (Ne.symm (h0.there hD))]; exact k1, by rw [upd_ne nc]; exact k2, k3⟩
theorem But.beside {H0 H1 : Hp} {a D : Addr} {o : HO} (b : But a H0 H1) (hD : H0 D = none) : But a H0 (upd H1 D o) := fun x u hx z => by
  rw [upd_ne (ne_of_none z hD)]
  exact b x u hx z
section
variable {P : Program} {w : World} {K : PySem.W.Frag} {mg : Str → Option Value} {base : Heap}
theorem ok_spoiled {f fT fM fR : Addr} {fd dT dM dR : FuncData} (F : Fun K "_law_spoiled" "_law_spoiled" (topS 27) f fd) (T : TD mg) (FT : Fun K "_law_take" "_law_take" sTake fT dT) (gT : mg "_law_take" = some (.ref fT))
    (FM : Fun K "_law_mixed" "_law_mixed" sMixed fM dM) (gM : mg "_law_mixed" = some (.ref fM)) (FR : Fun K "_law_rid" "_law_rid" (topS 22) fR dR) (gR : mg "_law_rid" = some (.ref fR)) :
    FnOk P w K mg base CX0 4 f fd ["_law_hand_here", "_law_things", "_law_odd"] (spSpoiled K) := by
  have GT : FnOk P w K mg base CX0 2 fT dT ["_law_hand_here", "_law_many_here"] spTake := ok_take FT T.toTB FM gM
  have bT : Binds K dT ["_law_hand_here", "_law_many_here"] [] := FT.binds fun _ _ _ _ _ _ us hl => match us, hl with | [_, _], _ => rfl
  have GR : FnOk P w K mg base CX0 3 fR dR ["_law_hand_here"] (spRid K) := ok_rid FR T.toTB FT gT FM gM
  have bR : Binds K dR ["_law_hand_here"] [] := FR.binds fun _ _ _ _ _ _ us hl => match us, hl with | [_], _ => rfl
  refine F.ok sc27 (fun vs H Q E h => ?_) (fun cdv A outer s H vs Q E hr h => ?_)
  · obtain ⟨a, c, b, xs, ds, o, od, rfl, _⟩ := h
    rfl
  · obtain ⟨a, c, b, xs, ds, o, od, rfl, hA, hs, hx, ho, hl, q⟩ := h
    have r2 := hr.mono (show 2 ≤ 3 by decide)
    refine ⟨_, PSs.nox (pss_cons (ps_set (i := 3) sc27.nd rfl (.inl rfl) (pe_call GT r2 rfl gT FT.kp bT .nil pass0 (pa_cons (pv 0) (pa_cons pe_int pa_nil))))
      (pss_cons (ps_set (i := 4) sc27.nd rfl (.inl rfl) (pe_callTy call_list_of (by rfl) T.list (by decide +kernel) (pa_cons (pv 1) pa_nil)))
      (pss_cons (ps_if (pt_cmpR op_eq (pv 3) pe_int (nomark _)) (pss_one (ps_ret (pe_call GR hr rfl gR FR.kp bR .nil pass0 (pa_cons (pv 0) pa_nil)))) pss_nil)
      (pss_cons (ps_if (PW.pt (pw_or (pt_cmpR op_lt (pv 3) pe_int (nomark _)) (pw_or1 (pt_not (pt_truth (pv 4) (by intro _; rfl))))))
        (pss_cons (ps_expr (pe_bm PySem.F.plainAttrs_list PySem.F.slot_list_insert PySem.F.type_list_insert mt_insert (pv 4)
          (pa_cons (pe_call GT r2 rfl gT FT.kp bT .nil pass0 (pa_cons (pv 0) (pa_cons (pe_op op_add (pe_callB call_len_seq (by rfl) T.len boot_len (pa_cons (pv 4) pa_nil)) pe_int) pa_nil))) (pa_cons (pv 2) pa_nil))))
          (pss_one (ps_ret (pv 4)))) pss_nil)
      (pss_cons (ps_set (i := 5) sc27.nd rfl (.inl rfl) (pe_call GT r2 rfl gT FT.kp bT .nil pass0 (pa_cons (pv 0) (pa_cons (pe_callB call_len_seq (by rfl) T.len boot_len (pa_cons (pv 4) pa_nil)) pa_nil))))
      (pss_cons (ps_if (pt_cmpR op_lt (pv 3) pe_int (nomark _)) (pss_one (ps_asg (pv 2) (pg_sub (pv 4) (pv 5) set_list)))
        (pss_one (ps_if (pt_cmpR op_eq (pv 3) pe_int (nomark _))
          (pss_one (ps_expr (pe_bm PySem.F.plainAttrs_list PySem.F.slot_list_insert PySem.F.type_list_insert mt_insert (pv 4) (pa_cons (pv 5) (pa_cons (pe_ix ix_list (pv 4) (pv 5) (fun _ _ => rfl)) pa_nil)))))
          (pss_cons (ps_set (i := 6) sc27.nd rfl (.inl rfl) (pe_call GT r2 rfl gT FT.kp bT .nil pass0 (pa_cons (pv 0) (pa_cons (pe_callB call_len_seq (by rfl) T.len boot_len (pa_cons (pv 4) pa_nil)) pa_nil))))
          (pss_cons (ps_set (i := 7) sc27.nd rfl (.inl rfl) (pe_ix ix_list (pv 4) (pv 5) (fun _ _ => rfl)))
          (pss_cons (ps_asg (pe_ix ix_list (pv 4) (pv 6) (fun _ _ => rfl)) (pg_sub (pv 4) (pv 5) set_list))
          (pss_one (ps_asg (pv 7) (pg_sub (pv 4) (pv 6) set_list)))))))))
      (pss_one (ps_ret (pv 4))))))))), ?_⟩
    have lx : xs.length = ds.length := hx.length
    refine ⟨_, rfl, a, c, 7, rfl, hA, by decide, by decide, fun k H1 k0 k7 A1 B1 => ?_⟩
    refine ⟨_, rfl, b, xs, rfl, (hs.same (del_but B1)).same del_same, fun D hD => ?_⟩
    have nD := A1.there hD
    have A2 := A1.same (same_upd' (o := .lst xs) hD)
    have h2 : upd H1 D (.lst xs) D = some (.lst xs) := upd_same
    have hD0 : H D = none := by
      cases e : H D with
      | none => rfl
      | some u =>
        have z := B1 D u nD e
        rw [hD] at z
        cases z
    have B2 : But a H (upd H1 D (.lst xs)) := B1.beside hD0
    -- a list of items of these is what is asked for
    have done : ∀ (ys : List V) (es : List PyData) (H3 : Hp), DqAll K (delH H a) ys es → es.length ≤ ds.length + 1 → (∀ e ∈ es, e ∈ ds ∨ e = od) → HandAt H3 a c → But a H H3 → Q (.ref D) (upd H3 D (.lst ys)) := fun ys es H3 hy hl2 he A3 B3 =>
      q _ (.list es) _ (.inr ⟨es, rfl, hl2, he⟩) (.lst (.inl (.inl (del_at upd_same nD))) (dhA_but (B3.beside hD0) hy)) (hA.beside hD0 A3) (B3.beside hD0)
    have fin : ∀ (n : Nat) (H3 : Hp), HandAt H3 a c → But a (upd H1 D (.lst xs)) H3 → Q (.ref D) (upd H3 D (.lst (xs.take n ++ [o] ++ xs.drop n))) := fun n H3 A3 B3 => by
      refine done _ (ds.take n ++ [od] ++ ds.drop n) H3 (((hx.take n).append (.cons ho .nil)).append (hx.drop n)) ?_ (fun e he => ?_) A3 (B2.trans B3)
      · rw [List.length_append, List.length_append, List.length_take, List.length_drop, List.length_singleton]
        omega
      · rcases List.mem_append.mp he with z | z
        · rcases List.mem_append.mp z with y | y
          · exact .inl (List.mem_of_mem_take y)
          · exact .inr (List.mem_singleton.mp y)
        · exact .inl (List.mem_of_mem_drop z)
    refine ⟨_, rfl, rfl, _, rfl, ?_⟩
    refine ite2 (fun _ => ?_) (fun _ => ?_)
    · exact ⟨_, rfl, a, c, rfl, A2, fun v d H3 hm hd A3 B3 => q v d H3 (.inl hm) hd A3 (B2.trans B3)⟩
    refine ⟨_, rfl, _, _, rfl, rfl, _, rfl, ?_⟩
    refine ite2 (fun _ => ?_) (fun h3 => ?_)
    · refine Eq.mpr (if_pos rfl) ?_
      · refine ⟨_, rfl, .inl ⟨rfl, _, SqL.of h2⟩, _, rfl, _, rfl, D, _, rfl, .inl (SqL.of h2), _, _, rfl, rfl, a, c, _, rfl, A2, by omega, Int.lt_trans (show (xs.length : Int) + 1 < 1000 by omega) (by decide), fun n H3 n0 n1 A3 B3 => ?_⟩
        refine ⟨_, rfl, D, xs, n, o, rfl, rfl, B3 D _ nD h2, small1000 (by omega), n0, by omega, _, rfl, ?_⟩
        exact fin n.toNat H3 A3 B3
    refine ⟨_, rfl, !xs.isEmpty, .inl ⟨_, SqL.of h2, rfl⟩, ?_⟩
    refine ite2 (fun _ => ?_) (fun h4 => ?_)
    · · refine ⟨_, rfl, .inl ⟨rfl, _, SqL.of h2⟩, _, rfl, _, rfl, D, _, rfl, .inl (SqL.of h2), _, _, rfl, rfl, a, c, _, rfl, A2, by omega, Int.lt_trans (show (xs.length : Int) + 1 < 1000 by omega) (by decide), fun n H3 n0 n1 A3 B3 => ?_⟩
        refine ⟨_, rfl, D, xs, n, o, rfl, rfl, B3 D _ nD h2, small1000 (by omega), n0, by omega, _, rfl, ?_⟩
        exact fin n.toNat H3 A3 B3
    have x0 : 0 < xs.length := by
      cases xs with
      | nil => exact absurd rfl h4
      | cons x xs => exact Nat.succ_pos _
    -- the place
    refine ⟨_, rfl, _, rfl, D, _, rfl, .inl (SqL.of h2), a, c, _, rfl, A2, by omega, Int.lt_trans (show (xs.length : Int) < 1000 by omega) (by decide), fun n H3 n0 n1 A3 B3 => ?_⟩
    have h3D := B3 D _ nD h2
    have B03 : But a H H3 := B2.trans B3
    have nl : n.toNat < xs.length := by omega
    have nx : xs[n.toNat]? = some xs[n.toNat] := List.getElem?_eq_getElem nl
    obtain ⟨dn, en, hn⟩ := hx.get nx
    refine ⟨_, rfl, _, _, rfl, rfl, _, rfl, ?_⟩
    refine ite2 (fun _ => ?_) (fun _ => ?_)
    · refine ⟨_, rfl, _, rfl, _, rfl, D, _, n, n.toNat, rfl, rfl, h3D, ixN_at n0 (by omega), _, rfl, ?_⟩
      refine done _ (ds.set n.toNat od) H3 (hx.set ho n.toNat) (by rw [List.length_set]; omega) (fun e he => ?_) A3 B03
      rcases List.mem_or_eq_of_mem_set he with z | z
      · exact .inl z
      · exact .inr z
    refine ⟨_, rfl, rfl, _, rfl, ?_⟩
    refine ite2 (fun _ => ?_) (fun _ => ?_)
    · refine ⟨_, rfl, .inl ⟨rfl, _, SqL.of h3D⟩, _, rfl, _, rfl, _, rfl, D, _, n, _, rfl, rfl, SqL.of h3D, at_item n0 nx, D, xs, n, _, rfl, rfl, h3D, small1000 (by omega), n0, by omega, _, rfl, ?_⟩
      refine done _ (ds.take n.toNat ++ [dn] ++ ds.drop n.toNat) H3 (((hx.take n.toNat).append (.cons hn .nil)).append (hx.drop n.toNat)) ?_ (fun e he => ?_) A3 B03
      · rw [List.length_append, List.length_append, List.length_take, List.length_drop, List.length_singleton]
        omega
      · rcases List.mem_append.mp he with z | z
        · rcases List.mem_append.mp z with y | y
          · exact .inl (List.mem_of_mem_take y)
          · rw [List.mem_singleton.mp y]
            exact .inl (List.mem_of_getElem? en)
        · exact .inl (List.mem_of_mem_drop z)
    refine ⟨_, rfl, _, rfl, D, _, rfl, .inl (SqL.of h3D), a, c, _, rfl, A3, by omega, Int.lt_trans (show (xs.length : Int) < 1000 by omega) (by decide), fun m H4 m0 m1 A4 B4 => ?_⟩
    have h4D := B4 D _ nD h3D
    have B04 : But a H H4 := B03.trans B4
    have ml : m.toNat < xs.length := by omega
    have mx : xs[m.toNat]? = some xs[m.toNat] := List.getElem?_eq_getElem ml
    obtain ⟨dm, em, hm⟩ := hx.get mx
    refine ⟨_, rfl, _, rfl, D, _, n, _, rfl, rfl, SqL.of h4D, at_item n0 nx, ?_⟩
    refine ⟨_, rfl, _, rfl, D, _, m, _, rfl, rfl, SqL.of h4D, at_item m0 mx, _, rfl, _, rfl, D, _, n, n.toNat, rfl, rfl, h4D, ixN_at n0 (by omega), ?_⟩
    refine ⟨_, rfl, _, rfl, _, rfl, D, _, m, m.toNat, rfl, rfl, upd_same, ixN_at m0 (by rw [List.length_set]; omega), _, rfl, ?_⟩
    rw [upd_upd]
    refine done _ ((ds.set n.toNat dm).set m.toNat dn) H4 ((hx.set hm n.toNat).set hn m.toNat) (by rw [List.length_set, List.length_set]; omega) (fun e he => ?_) A4 B04
    rcases List.mem_or_eq_of_mem_set he with z | z
    · rcases List.mem_or_eq_of_mem_set z with y | y
      · exact .inl y
      · rw [y]
        exact .inl (List.mem_of_getElem? em)
    · rw [z]
      exact .inl (List.mem_of_getElem? en)
end
end Hd
set_option Elab.async false
set_option linter.all false
set_option maxRecDepth 100000
set_option maxHeartbeats 1000000
namespace Hd
open PySem PySem.Spec PyProof.Rows L2 Gk
def noneD : PyData → Bool
  | .none => true
  | _ => false
theorem none_v {K : PySem.W.Frag} {H : Hp} {v : V} {d : PyData} (h : Dq K H v d) : decide (v = .non) = noneD d := by
  cases h <;> rfl
def intOf : PyData → Int
  | .int i => i
  | _ => 0
/-- the first that is not numbered so: g whether None is passed over, t the greatest so far, i the place -/
def misD (g : Bool) : Int → Nat → List PyData → Option Nat
  | _, _, [] => none
  | t, i, d :: ds => if (g && noneD d) = true then misD g t (i + 1) ds else if wholeD (some 0) (some (t + 1)) d = true then misD g (if intOf d > t then intOf d else t) (i + 1) ds else some i
def oN : Option Nat → V
  | none => .non
  | some i => .int (i : Nat)
def spMis (K : PySem.W.Frag) : Sp := fun vs H Q _ => ∃ (b : Addr) (xs : List V) (ds : List PyData) (g : Bool), vs = [.ref b, .bl g] ∧ SqS K H b xs ∧ DqAll K H xs ds ∧ ∀ H', Same H H' → Q (oN (misD g (-1) 0 ds)) H'
theorem sc8 : FnScope ["things", "gaps", "greatest", "index", "thing"] ["things", "gaps"] (defScope (topS 8)) := ⟨rfl, rfl, rfl, by decide +kernel, rfl, by decide +kernel, by decide +kernel⟩
abbrev FnD (K : PySem.W.Frag) (x : Str) (i : Nat) (dvs : List V) (f : Addr) (fd : FuncData) : Prop := FunD K x x (defArgs (topS i)) (defBody (topS i)) (defScope (topS i)) dvs [] f fd
theorem b_whole {K : PySem.W.Frag} {f : Addr} {fd : FuncData} (F : FnD K "is_whole" 6 [.non, .non] f fd) : Binds K fd ["thing", "low", "high"] [] := by
  obtain ⟨ds, r, b⟩ := F.binds1 (ps := ["thing", "low", "high"]) 3 2 (by simp) rfl fun T kV doc pm an cdv ct us its h1 h2 => match us, its, h1, h2 with | [_, _, _], [_, _], _, _ => ⟨_, rfl, rfl⟩
  cases r
  exact b
section
variable {P : Program} {w : World} {K : PySem.W.Frag} {mg : Str → Option Value} {base : Heap}
theorem ok_mis {f fW : Addr} {fd dW : FuncData} {dvs : List V} (F : FnD K "misnumbered_at" 8 dvs f fd) (T : TD mg) (FW : FnD K "is_whole" 6 [.non, .non] fW dW) (gW : mg "is_whole" = some (.ref fW)) :
    FnOk P w K mg base CX0 2 f fd ["things", "gaps"] (spMis K) := by
  have GW : FnOk P w K mg base CX0 1 fW dW ["thing", "low", "high"] (spWhole K) := ok_whole FW T
  have bW := b_whole FW
  refine F.ok sc8 (fun vs H Q E h => ?_) (fun cdv A outer s H vs Q E hr h => ?_)
  · obtain ⟨b, xs, ds, g, rfl, _⟩ := h
    rfl
  · obtain ⟨b, xs, ds, g, rfl, hs, hx, q⟩ := h
    refine ⟨_, PSs.nox (pss_cons (ps_set (i := 2) sc8.nd rfl (.inl rfl) (pe_un un_neg pe_int))
      (pss_cons (ps_for PassesOwn.never rfl (pi_enumS (by rfl) T.enum (pa_cons (pv 0) pa_nil)) (pg_tup rfl (pgs_cons (pg_name (i := 3) sc8.nd rfl (Or.inl rfl)) (pgs_cons (pg_name (i := 4) sc8.nd rfl (Or.inl rfl)) pgs_nil)))
        (pss_cons (ps_if (PW.pt (pw_and (pt_val (pv 1)) (pw_and1 (pt_cmpR op_isN (pv 4) pe_non (nomark _))))) (pss_one ps_continue) pss_nil)
        (pss_cons (ps_if (pt_not (pt_val (pe_call GW hr rfl gW FW.kp bW .nil pass0 (pa_cons (pv 4) (pa_cons pe_int (pa_cons (pe_op op_add (pv 2) pe_int) pa_nil)))))) (pss_one (ps_ret (pv 3))) pss_nil)
        (pss_one (ps_set (i := 2) sc8.nd rfl (.inl rfl) (pe_callB (call_max2 rfl) (by rfl) T.max (by decide +kernel) (pa_cons (pv 2) (pa_cons (pv 4) pa_nil))))))))
      (pss_one (ps_ret pe_non)))), ?_⟩
    refine ⟨_, rfl, _, rfl, b, xs, rfl, ?_⟩
    refine for_enumS hs (fun i σ H' => ∃ (t : Int) (x3 x4 : Option V), σ = [some (.ref b), some (.bl g), some (.int t), x3, x4] ∧ Same H H' ∧ misD g (-1) 0 ds = misD g t i (ds.drop i))
      ⟨-1, none, none, rfl, Same.refl H, by rw [List.drop_zero]⟩ (fun i σ H' _ ⟨_, _, _, _, s, _⟩ => s) ?_ ?_
    · rintro i x U σ H' hi ⟨t, x3, x4, rfl, s, e⟩ hU
      obtain ⟨d, hd, hxd⟩ := hx.get hi
      have lt : i < ds.length := (List.getElem?_eq_some_iff.mp hd).1
      have dr : ds.drop i = d :: ds.drop (i + 1) := by
        rw [List.drop_eq_getElem_cons lt]
        rw [List.getElem?_eq_getElem lt] at hd
        rw [Option.some.inj hd]
      rw [dr] at e
      have s2 : Same H (upd H' U (.tup [.int (i : Nat), x])) := s.trans (same_upd' hU)
      have nv := none_v hxd
      refine ⟨U, _, rfl, SqT.of upd_same, rfl, _, _, rfl, _, _, rfl, rfl, _, rfl, g, rfl, ?_⟩
      refine ite2 (fun hg => ?_) (fun hg => ?_)
      · refine ⟨_, rfl, rfl, _, rfl, ?_⟩
        rw [nv]
        refine ite2 (fun hn => ?_) (fun hn => ?_)
        · have e2 : misD g (-1) 0 ds = misD g t (i + 1) (ds.drop (i + 1)) := by
            rw [e]
            show (if (g && noneD d) = true then _ else _) = _
            rw [if_pos (by rw [hg, hn]; rfl)]
          exact ⟨t, _, _, rfl, s2, e2⟩
        have hgn : (g && noneD d) = false := by rw [Bool.eq_false_iff.mpr hn, Bool.and_false]
        refine ⟨_, rfl, _, rfl, _, _, rfl, rfl, x, d, some 0, some (t + 1), rfl, dq_same s2 _ _ hxd, _, rfl, ?_⟩
        have e2 : misD g (-1) 0 ds = if wholeD (some 0) (some (t + 1)) d = true then misD g (if intOf d > t then intOf d else t) (i + 1) (ds.drop (i + 1)) else some i := by
          rw [e]
          show (if (g && noneD d) = true then _ else _) = _
          rw [if_neg (by rw [hgn]; exact Bool.false_ne_true)]
        refine ite2 (fun hw => ?_) (fun hw => ?_)
        · rw [if_neg (by intro z; rw [z] at hw; cases hw)] at e2
          have q2 := q _ s2
          rw [e2] at q2
          exact ⟨_, rfl, q2⟩
        · have hw2 : wholeD (some 0) (some (t + 1)) d = true := by
            cases z : wholeD (some 0) (some (t + 1)) d with
            | true => rfl
            | false => exact absurd (by rw [z]; rfl) hw
          rw [if_pos hw2] at e2
          cases d with
          | int n =>
            cases int_v hxd
            exact ⟨_, rfl, _, rfl, _, _, rfl, _, _, _, rfl, s2, e2⟩
          | _ => cases hw2
      · refine Eq.mpr (if_neg (by decide)) ?_
        have hgn : (g && noneD d) = false := by rw [Bool.eq_false_iff.mpr hg, Bool.false_and]
        refine ⟨_, rfl, _, rfl, _, _, rfl, rfl, x, d, some 0, some (t + 1), rfl, dq_same s2 _ _ hxd, _, rfl, ?_⟩
        have e2 : misD g (-1) 0 ds = if wholeD (some 0) (some (t + 1)) d = true then misD g (if intOf d > t then intOf d else t) (i + 1) (ds.drop (i + 1)) else some i := by
          rw [e]
          show (if (g && noneD d) = true then _ else _) = _
          rw [if_neg (by rw [hgn]; exact Bool.false_ne_true)]
        refine ite2 (fun hw => ?_) (fun hw => ?_)
        · rw [if_neg (by intro z; rw [z] at hw; cases hw)] at e2
          have q2 := q _ s2
          rw [e2] at q2
          exact ⟨_, rfl, q2⟩
        · have hw2 : wholeD (some 0) (some (t + 1)) d = true := by
            cases z : wholeD (some 0) (some (t + 1)) d with
            | true => rfl
            | false => exact absurd (by rw [z]; rfl) hw
          rw [if_pos hw2] at e2
          cases d with
          | int n =>
            cases int_v hxd
            exact ⟨_, rfl, _, rfl, _, _, rfl, _, _, _, rfl, s2, e2⟩
          | _ => cases hw2
    · rintro σ H' ⟨t, x3, x4, rfl, s, e⟩
      have hl : xs.length = ds.length := hx.length
      rw [hl, List.drop_length] at e
      have q2 := q H' s
      rw [e] at q2
      exact q2
end
end Hd
set_option Elab.async false
set_option linter.all false
set_option maxRecDepth 100000
set_option maxHeartbeats 1000000
namespace Hd
open PySem PySem.Spec PyProof.Rows L2 Gk
/-- the whole numbers among these -/
def got (os : List (Option Int)) : List Int := os.filterMap id
theorem got_more {os : List (Option Int)} {i : Nat} {o : Option Int} (h : os[i]? = some o) : got (os.take (i + 1)) = got (os.take i) ++ o.toList := by
  have e : os.take (i + 1) = os.take i ++ [o] := by rw [List.take_add_one, h]; rfl
  unfold got
  rw [e, List.filterMap_append]
  cases o <;> rfl
theorem got_len (os : List (Option Int)) (i : Nat) : (got (os.take i)).length ≤ i :=
  Nat.le_trans (List.length_filterMap_le _ _) (by rw [List.length_take]; omega)
theorem got_some (ns : List Int) : got (ns.map some) = ns := by
  unfold got
  rw [List.filterMap_map]
  induction ns with
  | nil => rfl
  | cons n ns ih =>
    show n :: List.filterMap _ ns = _
    rw [ih]
/-- is not None -/
abbrev tNo : R2 := fun x y H Q => y = .non ∧ Q (.bl (!decide (x = .non))) H
def spGMany (K : PySem.W.Frag) : Sp := fun vs H Q _ => ∃ (b : Addr) (os : List (Option Int)), vs = [.ref b] ∧ SqS K H b (os.map oV) ∧ os.length ≤ 1000 ∧ ∀ H', Same H H' → Q (.int (manyI (got os))) H'
theorem sc11 : FnScope ["grouping", "group"] ["grouping"] (defScope (topS 11)) := ⟨rfl, rfl, rfl, by decide +kernel, rfl, by decide +kernel, by decide +kernel⟩
section
variable {P : Program} {w : World} {K : PySem.W.Frag} {mg : Str → Option Value} {base : Heap}
theorem ok_gmany {f : Addr} {fd : FuncData} (F : Fun K "groups_many" "groups_many" (topS 11) f fd) (T : TD mg) : FnOk P w K mg base CX0 1 f fd ["grouping"] (spGMany K) := by
  refine F.ok sc11 (fun vs H Q E h => ?_) (fun cdv A outer s H vs Q E hr h => ?_)
  · obtain ⟨b, os, rfl, _⟩ := h
    rfl
  · obtain ⟨b, os, rfl, hs, hl, q⟩ := h
    refine ⟨_, pss_one (ps_ret (pe_op op_add (pe_callBK (cr_maxF rfl hr.units) (by rfl) T.max (by decide +kernel)
      (pa_cons (pe_lc (own := [("group", 1)]) (g := gName 1) (te := tVar 1) rfl sc11.nd (pi_seqS (pv 0)) (blkOk_by (N := ["grouping", "group"]) (sc := defScope (topS 11)) (by decide +kernel)) (fun _ _ _ _ _ => pg_name (i := 1) sc11.nd rfl (Or.inl rfl))
        (fun _ _ _ _ _ => pts_one (pt_cmpR op_notN (pv 1) pe_non (nomark _))) (fun _ _ _ _ _ => pv 1)) pa_nil) (pk_cons (pe_un un_neg pe_int) pk_nil)) pe_int)), ?_⟩
    refine lcS_ev (Q := fun v H1 => tUn (rU fun i => V.int (-i)) (tC (V.int 1)) [some (.ref b), none] H1 fun z H2 => rMaxF K [v] [z] H2 fun x H3 => rI0 (fun i j => .int (i + j)) x (.int 1) H3 Q) (i := 0) (vs := [1]) (j := 1) (σ := [some (.ref b), none]) (te := tVar 1) (tt := tTest (tOp tNo (tVar 1) (tC .non))) rfl (fun i => (got (os.take i)).map V.int) rfl (fun i _ => by rw [List.length_map]; exact got_len os i) (by rw [List.length_map]; exact hl) (fun _ => rfl) hs (fun i x H' R N hi s kR kN => ?_) fun D H' s hD hd => ?_
    · rw [List.getElem?_map] at hi
      cases ho : os[i]? with
      | none => rw [ho] at hi; cases hi
      | some o =>
        rw [ho] at hi
        cases (Option.some.inj hi)
        refine ⟨_, rfl, rfl, _, rfl, ?_⟩
        cases o with
        | none =>
          refine kN H' (Same.refl H') ?_
          show (got (os.take (i + 1))).map V.int = _
          rw [got_more ho]
          simp
        | some n =>
          refine ⟨_, rfl, ?_⟩
          refine kR H' _ (Same.refl H') ?_
          show (got (os.take (i + 1))).map V.int = _
          rw [got_more ho]
          simp
          rfl
    · rw [List.length_map, List.take_length] at hd
      refine ⟨_, rfl, D, got os, -1, rfl, rfl, .inl (SqL.of hd), ?_⟩
      exact ⟨_, _, rfl, rfl, q H' s⟩
end
end Hd
set_option Elab.async false
set_option linter.all false
set_option maxRecDepth 100000
set_option maxHeartbeats 1000000
namespace Hd
open PySem PySem.Spec PyProof.Rows L2 Gk
/-- a count of things -/
def cntD (d : PyData) : Bool := wholeD (some 1) (some 6) d
def spCheck (K : PySem.W.Frag) (C : Addr) : Sp := fun vs H Q E => ∃ v d, vs = [v] ∧ Dq K H v d ∧ (cntD d = true → Q v H) ∧ (cntD d = false → ∀ v' H', Same H H' → Dq K H' v' (unD d) → Out C "count" v' H' E)
theorem sc12 : FnScope ["count"] ["count"] (defScope (topS 12)) := ⟨rfl, rfl, rfl, by decide +kernel, rfl, by decide +kernel, by decide +kernel⟩
section
variable {P : Program} {w : World} {K : PySem.W.Frag} {mg : Str → Option Value} {base : Heap}
theorem ok_check {f fW fU S C : Addr} {fd dW dU : FuncData} (F : Fun K "check_count" "check_count" (topS 12) f fd) (T : TD mg) (FW : FnD K "is_whole" 6 [.non, .non] fW dW) (gW : mg "is_whole" = some (.ref fW))
    (FU : Fun K "unshared" "unshared" (topS 7) fU dU) (gU : mg "unshared" = some (.ref fU)) (EC : E1 K mg S C "BadCount" "count") : FnOk P w K mg base (L2.CX P w) 3 f fd ["count"] (spCheck K C) := by
  have GW : FnOk P w K mg base CX0 1 fW dW ["thing", "low", "high"] (spWhole K) := ok_whole FW T
  have bW := b_whole FW
  have GU : FnOk P w K mg base CX0 1 fU dU ["thing"] (spUn K) := ok_un FU T
  have bU : Binds K dU ["thing"] [] := FU.binds fun _ _ _ _ _ _ us hl => match us, hl with | [_], _ => rfl
  refine F.okX sc12 (fun vs H Q E h => ?_) (fun cdv A outer s H vs Q E hr h => ?_)
  · obtain ⟨v, d, rfl, _⟩ := h
    rfl
  · obtain ⟨v, d, rfl, hd, q1, q2⟩ := h
    have r1 := hr.mono (show 1 ≤ 2 by decide)
    refine ⟨_, pss_cons (ps_if (pt_not (pt_val (pe_call GW r1 rfl gW FW.kp bW .nil pass0 (pa_cons (pv 0) (pa_cons pe_int (pa_cons pe_int pa_nil))))))
      (pss_one (ps_raise rfl (takes_of rfl rfl rfl rfl) (pmk1 EC hr (by rfl) (pa_cons (pe_call GU r1 rfl gU FU.kp bU .nil pass0 (pa_cons (pv 0) pa_nil)) pa_nil)))) pss_nil) (pss_one (ps_ret (pv 0))), ?_⟩
    refine ⟨_, rfl, v, d, some 1, some 6, rfl, hd, _, rfl, ?_⟩
    refine ite2 (fun h1 => ?_) (fun h1 => ?_)
    · have e : cntD d = false := by unfold cntD; simpa using h1
      exact ⟨_, rfl, v, d, rfl, hd, fun v' H' s hd' => ⟨v', rfl, q2 e v' H' s hd'⟩⟩
    · have e : cntD d = true := by unfold cntD; simpa using h1
      exact ⟨_, rfl, q1 e⟩
end
end Hd
set_option Elab.async false
set_option linter.all false
set_option maxRecDepth 100000
set_option maxHeartbeats 1000000
namespace Hd
open PySem PySem.Spec PyProof.Rows L2 Gk
def itemsD : PyData → List PyData
  | .list ds => ds
  | .tuple ds => ds
  | _ => []
/-- the first fault of a grouping of m things, None passed over or not -/
def badD (m : Int) (g : Bool) (d : PyData) : Option Int :=
  if seqD d = true then
    match misD g (-1) 0 (itemsD d) with
    | some i => some (i : Nat)
    | none => if ((itemsD d).length : Int) = m then none else some (if m < ((itemsD d).length : Int) then m else ((itemsD d).length : Int))
  else some 0
def spCG (K : PySem.W.Frag) (C : Addr) : Sp := fun vs H Q E => ∃ (m : Int) (v : V) (d : PyData) (g : Bool), vs = [.int m, v, .bl g] ∧ Dq K H v d ∧
  (∀ i, badD m g d = some i → ∀ H', Same H H' → Out C "index" (.int i) H' E) ∧ (badD m g d = none → ∀ v' H', Same H H' → Dq K H' v' (.tuple (itemsD d)) → Q v' H')
theorem sc10 : FnScope ["count", "grouping", "gaps", "index"] ["count", "grouping", "gaps"] (defScope (topS 10)) := ⟨rfl, rfl, rfl, by decide +kernel, rfl, by decide +kernel, by decide +kernel⟩
theorem b_mis {K : PySem.W.Frag} {f : Addr} {fd : FuncData} (F : FnD K "misnumbered_at" 8 [.bl false] f fd) : Binds K fd ["things", "gaps"] [] := by
  obtain ⟨ds, r, b⟩ := F.binds1 (ps := ["things", "gaps"]) 2 1 (by simp) rfl fun T kV doc pm an cdv ct us its h1 h2 => match us, its, h1, h2 with | [_, _], [_], _, _ => ⟨_, rfl, rfl⟩
  cases r
  exact b
section
variable {P : Program} {w : World} {K : PySem.W.Frag} {mg : Str → Option Value} {base : Heap}
theorem ok_cg {f fQ fM fW S C : Addr} {fd dQ dM dW : FuncData} {dvs : List V} (F : FnD K "check_grouping" 10 dvs f fd) (T : TD mg) (FQ : Fun K "is_sequence" "is_sequence" (topS 5) fQ dQ) (gQ : mg "is_sequence" = some (.ref fQ))
    (FM : FnD K "misnumbered_at" 8 [.bl false] fM dM) (gM : mg "misnumbered_at" = some (.ref fM)) (FW : FnD K "is_whole" 6 [.non, .non] fW dW) (gW : mg "is_whole" = some (.ref fW))
    (EC : E1 K mg S C "BadGrouping" "index") : FnOk P w K mg base (L2.CX P w) 3 f fd ["count", "grouping", "gaps"] (spCG K C) := by
  have GQ : FnOk P w K mg base CX0 1 fQ dQ ["thing"] (spIsSeq K) := ok_isSeq FQ T
  have bQ : Binds K dQ ["thing"] [] := FQ.binds fun _ _ _ _ _ _ us hl => match us, hl with | [_], _ => rfl
  have GM : FnOk P w K mg base CX0 2 fM dM ["things", "gaps"] (spMis K) := ok_mis FM T FW gW
  have bM := b_mis FM
  refine F.ok sc10 (fun vs H Q E h => ?_) (fun cdv A outer s H vs Q E hr h => ?_)
  · obtain ⟨m, v, d, g, rfl, _⟩ := h
    rfl
  · obtain ⟨m, v, d, g, rfl, hd, q1, q2⟩ := h
    have r1 := hr.mono (show 1 ≤ 2 by decide)
    refine ⟨_, pss_cons (ps_if (pt_not (pt_val (pe_call GQ r1 rfl gQ FQ.kp bQ .nil pass0 (pa_cons (pv 1) pa_nil)))) (pss_one (ps_raise rfl (takes_of rfl rfl rfl rfl) (pmk1 EC hr (by rfl) (pa_cons pe_int pa_nil)))) pss_nil)
      (pss_cons (ps_set (i := 3) sc10.nd rfl (.inl rfl) (pe_call GM hr rfl gM FM.kp bM .nil pass0 (pa_cons (pv 1) (pa_cons (pv 2) pa_nil))))
      (pss_cons (ps_if (pt_cmpR op_notN (pv 3) pe_non (nomark _)) (pss_one (ps_raise rfl (takes_of rfl rfl rfl rfl) (pmk1 EC hr (by rfl) (pa_cons (pv 3) pa_nil)))) pss_nil)
      (pss_cons (ps_if (pt_cmpR op_ne (pe_callB call_len_seq (by rfl) T.len boot_len (pa_cons (pv 1) pa_nil)) (pv 0) (nomark _)) (pss_one (ps_raise rfl (takes_of rfl rfl rfl rfl) (pmk1 EC hr (by rfl)
        (pa_cons (pe_callB (call_min2 rfl) (by rfl) T.min (by decide +kernel) (pa_cons (pe_callB call_len_seq (by rfl) T.len boot_len (pa_cons (pv 1) pa_nil)) (pa_cons (pv 0) pa_nil))) pa_nil)))) pss_nil)
      (pss_one (ps_ret (pe_callTy call_tuple_of (by rfl) T.tuple (by decide +kernel) (pa_cons (pv 1) pa_nil))))))), ?_⟩
    refine ⟨_, rfl, v, d, rfl, hd, fun H1 s1 => ⟨_, rfl, ?_⟩⟩
    unfold badD at q1 q2
    refine ite2 (fun h1 => ?_) (fun h1 => ?_)
    · have e : seqD d = false := by simpa using h1
      rw [e] at q1
      exact ⟨_, rfl, q1 0 rfl H1 s1⟩
    · have e : seqD d = true := by simpa using h1
      rw [e, if_pos rfl] at q1
      rw [e, if_pos rfl] at q2
      obtain ⟨b, xs, ds, rfl, hs, hx, ht⟩ := seq_v hd e
      have ei : itemsD d = ds := by
        rcases ht with ⟨rfl, _⟩ | ⟨rfl, _⟩ <;> rfl
      rw [ei] at q1 q2
      refine ⟨_, rfl, _, rfl, b, xs, ds, g, rfl, hs.same s1, dqAll_same s1 _ _ hx, fun H2 s2 => ?_⟩
      have s12 := s1.trans s2
      cases hm : misD g (-1) 0 ds with
      | some i =>
        rw [hm] at q1
        refine ⟨_, rfl, rfl, _, rfl, ?_⟩
        refine ite2 (fun _ => ?_) (fun z => absurd rfl z)
        exact ⟨_, rfl, _, rfl, q1 _ rfl H2 s12⟩
      | none =>
        rw [hm] at q1 q2
        refine ⟨_, rfl, rfl, _, rfl, ?_⟩
        refine ite2 (fun z => (nomatch z)) (fun _ => ?_)
        have hs2 := hs.same s12
        have lx : xs.length = ds.length := hx.length
        refine ⟨_, rfl, b, xs, rfl, hs2, _, rfl, rfl, _, rfl, ?_⟩
        rw [lx]
        by_cases z : (ds.length : Int) = m
        · refine ite2 (fun y => ?_) (fun _ => ?_)
          · rw [z] at y
            simp at y
          · rw [if_pos z] at q2
            refine ⟨_, rfl, b, xs, rfl, ?_⟩
            rcases hs2 with h | h
            · exact .inl ⟨h, fun l hl => q2 rfl _ _ (s12.trans (same_upd' hl)) (.tup (.inl (.inl upd_same)) (dqAll_same (s12.trans (same_upd' hl)) _ _ hx))⟩
            · exact .inr ⟨h, q2 rfl _ _ s12 (.tup h (dqAll_same s12 _ _ hx))⟩
        · rw [if_neg z] at q1
          refine ite2 (fun _ => ?_) (fun y => ?_)
          · refine ⟨_, rfl, b, xs, rfl, hs2, _, rfl, _, _, rfl, _, rfl, ?_⟩
            rw [lx]
            exact q1 _ rfl H2 s12
          · refine absurd ?_ y
            simpa using z
end
end Hd
set_option Elab.async false
set_option linter.all false
set_option maxRecDepth 100000
set_option maxHeartbeats 1000000
namespace Hd
open PySem PySem.Spec PyProof.Rows L2 Gk
/-! ### all groupings -/
def tupI (g : List Int) : PyData := .tuple (g.map .int)
def ext (g : List Int) : List (List Int) := (List.range (manyI g + 1).toNat).map fun (j : Nat) => g ++ [(j : Int)]
def grow (gs : List (List Int)) : List (List Int) := gs.flatMap ext
def rows : Nat → List (List Int)
  | 0 => [[]]
  | n + 1 => grow (rows n)
def rowsB : Bool := (List.range 7).all fun i => decide ((rows i).length ≤ 203) && (rows i).all fun g => decide (0 ≤ manyI g) && decide (manyI g ≤ 6) && decide (g.length = i)
theorem rowsB_ok : rowsB = true := by decide +kernel
theorem rows_len {i : Nat} (h : i ≤ 6) : (rows i).length ≤ 203 := by
  have z := List.all_eq_true.mp rowsB_ok i (List.mem_range.mpr (by omega))
  simp only [Bool.and_eq_true, decide_eq_true_eq] at z
  exact z.1
theorem rows_mem {i : Nat} (h : i ≤ 6) {g : List Int} (hg : g ∈ rows i) : 0 ≤ manyI g ∧ manyI g ≤ 6 ∧ g.length = i := by
  have z := List.all_eq_true.mp rowsB_ok i (List.mem_range.mpr (by omega))
  simp only [Bool.and_eq_true, decide_eq_true_eq] at z
  have y := List.all_eq_true.mp z.2 g hg
  simp only [Bool.and_eq_true, decide_eq_true_eq] at y
  exact ⟨y.1.1, y.1.2, y.2⟩
theorem grow_more {gs : List (List Int)} {i : Nat} {g : List Int} (h : gs[i]? = some g) : grow (gs.take (i + 1)) = grow (gs.take i) ++ ext g := by
  unfold grow
  rw [List.take_add_one, h, List.flatMap_append]
  simp
theorem ints_v {K : PySem.W.Frag} {H : Hp} : ∀ {xs : List V} {ns : List Int}, DqAll K H xs (ns.map .int) → xs = ns.map V.int
  | [], [], _ => rfl
  | _, n :: ns, .cons a b => by
    cases a
    rw [ints_v b]
    rfl
theorem ints_dq {K : PySem.W.Frag} {H : Hp} : ∀ ns : List Int, DqAll K H (ns.map V.int) (ns.map .int)
  | [] => .nil
  | n :: ns => .cons (.int n) (ints_dq ns)
theorem tup_v {K : PySem.W.Frag} {H : Hp} {v : V} {g : List Int} (h : Dq K H v (tupI g)) : ∃ a, v = .ref a ∧ SqT K H a (g.map V.int) := by
  cases h with
  | tup a b =>
    rw [ints_v b] at a
    exact ⟨_, rfl, a⟩
theorem but_upd {a : Addr} {H : Hp} {o : HO} : But a H (upd H a o) := fun b u hb z => by rw [upd_ne hb]; exact z
/-- the list at D grows by one tuple -/
theorem grown_by {K : PySem.W.Frag} {H : Hp} {D p : Addr} {acc : List V} {ds : List PyData} {g : List Int} (hD : H D = some (.lst acc)) (ha : DqAll K (delH H D) acc ds) (hp : H p = none) :
    DqAll K (delH (upd (upd H p (.tup (g.map V.int))) D (.lst (acc ++ [.ref p]))) D) (acc ++ [.ref p]) (ds ++ [tupI g]) := by
  have np : p ≠ D := fun z => by rw [z, hD] at hp; cases hp
  have bt : But D H (upd (upd H p (.tup (g.map V.int))) D (.lst (acc ++ [.ref p]))) := (But.of (same_upd' hp)).trans but_upd
  refine (dhA_but bt ha).append (.cons (.tup (.inl (.inl ?_)) (ints_dq g)) .nil)
  rw [delH_ne np, upd_ne np]
  exact upd_same
/-- [(*known, group) for known in .. for group in range(.. + 1)]: slots 4 and 5 -/
theorem grow_ev {K : PySem.W.Frag} {σ : L2.St} {H : Hp} {Q : VK} {G : Addr} {refs : List V} {gs : List (List Int)} {x0 x2 : Option V} (eσ : σ = [x0, some (.ref G), x2, none, none, none]) (hG : SqL K H G refs) (hx : DqAll K H refs (gs.map tupI))
    (hl : gs.length ≤ 203) (hm : ∀ g ∈ gs, 0 ≤ manyI g ∧ manyI g ≤ 6 ∧ g.length ≤ 6)
    (k : ∀ (D : Addr) (refs' : List V) (H' : Hp), Same H H' → H D = none → H' D = some (.lst refs') → DqAll K H' refs' ((grow gs).map tupI) → Q (.ref D) H') :
    tLc2 (iList K (tVar 1)) (gName 4) tYes (iRng1 (tCons (tOp (rI0 fun i j => .int (i + j)) (tCall (spGMany K) [] E0 (tCons (tVar 4) tNil)) (tC (.int 1))) tNil)) (gName 5) tYes
      (tTup (StX.tStar K (tVar 4) (tCons (tVar 5) tNil))) [4, 5] [5] σ H Q := by
  subst eσ
  have lx : refs.length = gs.length := by rw [hx.length, List.length_map]
  refine ⟨_, rfl, G, rfl, ⟨_, hG⟩, fun D hD => ?_⟩
  refine ⟨fun i m H1 => m = refs.length - i ∧ i ≤ refs.length ∧ Same H H1 ∧ ∃ acc, H1 D = some (.lst acc) ∧ acc.length ≤ 7 * i ∧ DqAll K (delH H1 D) acc ((grow (gs.take i)).map tupI),
    ⟨_, rfl, Nat.zero_le _, same_upd' hD, [], upd_same, Nat.le_refl _, .nil⟩, ?_⟩
  rintro i m H1 ⟨rfl, hi, s1, acc, hA, la, da⟩
  by_cases hlt : i < refs.length
  · refine .inr ⟨⟨refs, refs[i], s1.seq hG, by simp [hlt]⟩, fun H' => Same H H' ∧ ∃ acc, H' D = some (.lst acc) ∧ acc.length ≤ 7 * (i + 1) ∧ DqAll K (delH H' D) acc ((grow (gs.take (i + 1))).map tupI),
      fun H' p => ⟨refs.length - (i + 1), by omega, rfl, by omega, p.1, p.2⟩, ?_⟩
    rintro x H1' ⟨rfl, hx1⟩
    have hxi := hx1 refs (s1.seq hG)
    obtain ⟨d, hd, hv⟩ := hx.get hxi
    rw [List.getElem?_map] at hd
    cases hg : gs[i]? with
    | none => rw [hg] at hd; cases hd
    | some g =>
      rw [hg] at hd
      cases (Option.some.inj hd)
      obtain ⟨kt, rfl, hT⟩ := tup_v hv
      obtain ⟨m0, m6, l6⟩ := hm g (List.mem_of_getElem? hg)
      refine ⟨rfl, ?_⟩
      refine ⟨_, rfl, kt, g.map some, rfl, .inr ?_, by rw [List.length_map]; omega, fun H2 s2 => ?_⟩
      · rw [List.map_map]
        exact sqT_same s1 hT
      rw [got_some]
      refine ⟨_, _, rfl, rfl, manyI g + 1, rfl, by omega, by omega, ?_⟩
      have s12 := s1.trans s2
      refine ⟨fun j k H3 => k = (manyI g + 1).toNat - j ∧ j ≤ (manyI g + 1).toNat ∧ Same H H3 ∧ ∃ acc, H3 D = some (.lst acc) ∧ acc.length ≤ 7 * i + j ∧
          DqAll K (delH H3 D) acc ((grow (gs.take i) ++ (List.range j).map fun (j : Nat) => g ++ [(j : Int)]).map tupI),
        ⟨_, rfl, Nat.zero_le _, s12, acc, s2 _ _ hA, la, ?_⟩, ?_⟩
      · rw [List.range_zero, List.map_nil, List.append_nil]
        exact dhA_same s2 da
      rintro j k H3 ⟨rfl, hj, s3, acc3, hA3, la3, da3⟩
      by_cases jlt : j < (manyI g + 1).toNat
      · refine .inr ⟨jlt, fun H' => Same H H' ∧ ∃ acc, H' D = some (.lst acc) ∧ acc.length ≤ 7 * i + (j + 1) ∧ DqAll K (delH H' D) acc ((grow (gs.take i) ++ (List.range (j + 1)).map fun (j : Nat) => g ++ [(j : Int)]).map tupI),
          fun H' p => ⟨(manyI g + 1).toNat - (j + 1), by omega, rfl, by omega, p.1, p.2⟩, ?_⟩
        rintro x H3' ⟨rfl, rfl⟩
        refine ⟨rfl, ?_⟩
        refine ⟨_, rfl, kt, g.map V.int, rfl, .inl (sqT_same s3 hT), _, rfl, ?_, fun p hp => ?_⟩
        · rw [List.length_append, List.length_map]
          show g.length + 1 ≤ sizeLine
          rw [sizeLine_eq]
          omega
        have e1 : g.map V.int ++ [V.int ((0 : Int) + (j : Int))] = (g ++ [(j : Int)]).map V.int := by
          rw [List.map_append, Int.zero_add]
          rfl
        have np : D ≠ p := fun z => by rw [← z, hA3] at hp; cases hp
        refine ⟨acc3, by rw [upd_ne np]; exact hA3, ?_, ?_, acc3 ++ [.ref p], upd_same, ?_, ?_⟩
        · rw [sizeLine_eq]
          omega
        · intro b o z
          rw [upd_ne (ne_of_none z hD), upd_ne (ne_of_none (s3 b o z) hp)]
          exact s3 b o z
        · rw [List.length_append, List.length_singleton]
          omega
        · have gb := grown_by (g := g ++ [(j : Int)]) hA3 da3 hp
          rw [← e1] at gb
          have e2 : (grow (gs.take i) ++ (List.range (j + 1)).map fun (j : Nat) => g ++ [(j : Int)]).map tupI = (grow (gs.take i) ++ (List.range j).map fun (j : Nat) => g ++ [(j : Int)]).map tupI ++ [tupI (g ++ [(j : Int)])] := by
            simp [List.range_succ, List.append_assoc]
          rw [e2]
          exact gb
      · have ej : j = (manyI g + 1).toNat := by omega
        subst ej
        refine .inl ⟨Nat.le_refl _, s3, acc3, hA3, by omega, ?_⟩
        rw [grow_more hg]
        exact da3
  · have ei : i = refs.length := by omega
    subst ei
    refine .inl ⟨⟨refs, s1.seq hG, Nat.le_refl _⟩, k D acc H1 s1 hD hA ?_⟩
    rw [lx, List.take_length] at da
    exact dqAll_same del_same _ _ da
end Hd
set_option Elab.async false
set_option linter.all false
set_option maxRecDepth 100000
set_option maxHeartbeats 1000000
namespace Hd
open PySem PySem.Spec PyProof.Rows L2 Gk GenW
theorem cnt_int {d : PyData} (h : cntD d = true) : ∃ n : Nat, d = .int n ∧ 1 ≤ n ∧ n ≤ 6 := by
  cases d with
  | int i =>
    have z : (decide ((1 : Int) ≤ i) && decide (i ≤ 6)) = true := h
    simp only [Bool.and_eq_true, decide_eq_true_eq] at z
    exact ⟨i.toNat, by rw [Int.toNat_of_nonneg (by omega)], by omega, by omega⟩
  | _ => cases h
def spAllG (K : PySem.W.Frag) (C : Addr) : SpG := fun vs H Q E => ∃ v d, vs = [v] ∧ Dq K H v d ∧
  (∀ n : Nat, d = .int n → 1 ≤ n → n ≤ 6 → ∀ ys H', Same H H' → DqAll K H' ys ((rows n).map tupI) → Q ys H') ∧ (cntD d = false → ∀ v' H', Same H H' → Dq K H' v' (unD d) → Out C "count" v' H' E)
abbrev nAll : List Str := ["count", "groupings", "_", "grouping", "known", "group"]
theorem sc13 : GScope nAll ["count"] (defScope (topS 13)) := ⟨rfl, rfl, rfl, by decide +kernel, rfl, by decide +kernel, by decide +kernel⟩
/-- behind i turns -/
def PvAll (K : PySem.W.Frag) (H : Hp) (n i : Nat) : L2.St → Hp → Prop := fun σ H1 => ∃ (x2 : Option V) (G : Addr) (refs : List V), σ = [some (.int n), some (.ref G), x2, none, none, none] ∧ Same H H1 ∧ H1 G = some (.lst refs) ∧ DqAll K H1 refs ((rows i).map tupI)
section
variable {P : Program} {w : World} {K : PySem.W.Frag} {mg : Str → Option Value} {base : Heap}
theorem ok_all {f fC fW fU fG S C : Addr} {fd dC dW dU dG : FuncData} (F : Fun K "all_groupings" "all_groupings" (topS 13) f fd) (T : TD mg) (FC : Fun K "check_count" "check_count" (topS 12) fC dC) (gC : mg "check_count" = some (.ref fC))
    (FW : FnD K "is_whole" 6 [.non, .non] fW dW) (gW : mg "is_whole" = some (.ref fW)) (FU : Fun K "unshared" "unshared" (topS 7) fU dU) (gU : mg "unshared" = some (.ref fU))
    (FG : Fun K "groups_many" "groups_many" (topS 11) fG dG) (gG : mg "groups_many" = some (.ref fG)) (EC : E1 K mg S C "BadCount" "count") : GFn P w K mg base 4 f fd ["count"] (spAllG K C) := by
  have GC : FnOk P w K mg base (L2.CX P w) 3 fC dC ["count"] (spCheck K C) := ok_check FC T FW gW FU gU EC
  have bC : Binds K dC ["count"] [] := FC.binds fun _ _ _ _ _ _ us hl => match us, hl with | [_], _ => rfl
  have GG : FnOk P w K mg base CX0 1 fG dG ["grouping"] (spGMany K) := ok_gmany FG T
  have bG : Binds K dG ["grouping"] [] := FG.binds fun _ _ _ _ _ _ us hl => match us, hl with | [_], _ => rfl
  obtain ⟨oc, od, kV, doc, pm, an, cdv, ct, osl, rfl, lk, hcd⟩ := F.ex
  refine gfn_of lk hcd sc13 (fun vs H Q E h => ?_) fun A outer s H vs Q E pn hr h => ?_
  · obtain ⟨v, d, rfl, _⟩ := h
    rfl
  · obtain ⟨v, d, rfl, hd, q1, q2⟩ := h
    have r1 := hr.mono (show 1 ≤ 3 by decide)
    refine ⟨_, gss_cons (gs_ps (ps_expr (pe_call GC hr (by rfl) gC FC.kp bC .nil (passes_call takes_gcx fun _ _ _ _ z => z) (pa_cons (pv 0) pa_nil))))
      (gss_cons (gs_ps (ps_set (i := 1) sc13.nd rfl (.inl rfl) (pe_lst (pa_cons (pe_tup pa_nil) pa_nil))))
      (gss_cons (gs_ps (ps_for owns_gcx rfl (pi_range1 (by rfl) T.range (pa_cons (pv 0) pa_nil)) (pg_name (i := 2) sc13.nd rfl (.inl rfl))
        (pss_one (ps_setLc2 (i := 1) (own := [("known", 4), ("group", 5)]) (vs1 := [5]) (g := gName 4) (g1 := gName 5) (tt := tYes) (tt1 := tYes) (te := tTup (StX.tStar K (tVar 4) (tCons (tVar 5) tNil))) rfl sc13.nd rfl rfl (sw_true rfl rfl rfl (by decide +kernel)) (pi_list (pv 1))
          (blkOk_by (N := nAll) (sc := defScope (topS 13)) (by decide +kernel)) (by decide) (fun _ _ _ _ _ => pg_name (i := 4) sc13.nd rfl (.inl rfl)) (fun _ _ _ _ _ => pts_nil)
          (fun _ _ _ _ _ => pi_range1 (by rfl) T.range (pa_cons (pe_op op_add (pe_call GG r1 (by rfl) gG FG.kp bG .nil pass0 (pa_cons (pv 4) pa_nil)) pe_int) pa_nil)) (fun _ _ _ _ _ => pg_name (i := 5) sc13.nd rfl (.inl rfl)) (fun _ _ _ _ _ => pts_nil)
          (fun _ _ _ _ _ => by exact (pe_tup (StX.pa_star (p := ⟨_, _, _, _⟩) (pv 4) (pa_cons (pv 5) pa_nil))))))))
      (gss_cons (gs_for owns_gcx rfl (pi_list (pv 1)) (pg_name (i := 3) sc13.nd rfl (.inl rfl)) (gss_cons (gs_yield (pv 3)) gss_nil)) gss_nil))), ?_⟩
    refine ⟨_, rfl, v, d, rfl, hd, fun hc => ?_, q2⟩
    obtain ⟨n, rfl, n1, n6⟩ := cnt_int hc
    cases int_v hd
    refine ⟨Nat.zero_le _, fun t ht => ⟨(by show 1 ≤ sizeLine; decide), fun G hG => ?_⟩⟩
    have s2 := (same_upd' (o := .tup []) ht).trans (same_upd' (o := .lst [.ref t]) hG)
    refine ⟨_, rfl, _, rfl, by omega, by omega, for_range (PvAll K H n)
      ⟨none, G, [.ref t], rfl, s2, upd_same, .cons (.tup (.inl (.inl ?_)) .nil) .nil⟩ ?_ ?_⟩
    · exact same_upd' hG _ _ upd_same
    · rintro i σ H1 hi ⟨x2, G1, refs, rfl, s1, hG1, hx⟩
      have i6 : i ≤ 6 := by omega
      refine grow_ev (x0 := some (.int n)) (x2 := some (.int (0 + (i : Int)))) (Q := fun x H1 => PvAll K H n (i + 1) [some (.int n), some x, some (.int (0 + (i : Int))), none, none, none] H1) (gs := rows i) (refs := refs) rfl (SqL.of hG1) hx (rows_len i6) (fun g hg => ?_) fun D refs' H' s hD hd hx' => ?_
      · obtain ⟨a1, a2, a3⟩ := rows_mem i6 hg
        exact ⟨a1, a2, by omega⟩
      · exact ⟨_, D, refs', rfl, s1.trans s, hd, hx'⟩
    · rintro σ H1 ⟨x2, G1, refs, rfl, s1, hG1, hx⟩
      have en : ((n : Int)).toNat = n := by omega
      rw [en] at hx
      have lr : refs.length ≤ 203 := by
        rw [hx.length, List.length_map]
        exact rows_len n6
      refine ⟨_, rfl, G1, rfl, ⟨_, SqL.of hG1⟩, gfor_it (walk_list (xs := refs)) (fun i ys σ H' => ∃ x3, σ = [some (.int n), some (.ref G1), x2, x3, none, none] ∧ H' = H1 ∧ ys = refs.take i) ⟨none, rfl, rfl, rfl⟩ ?_ ?_ ?_⟩
      · rintro i ys σ H' _ ⟨_, _, rfl, _⟩
        exact SqL.of hG1
      · rintro i x ys σ H' H'' hi ⟨x3, rfl, rfl, rfl⟩ ⟨rfl, hxi⟩
        refine ⟨?_, _, rfl, some x, rfl, rfl, ?_⟩
        · rw [List.length_take, sizeLine_eq]
          omega
        · rw [List.take_add_one, hxi]
          rfl
      · rintro ys σ H' ⟨_, _, rfl, rfl⟩
        rw [List.take_length]
        exact q1 n rfl n1 n6 refs _ s1 hx
end
end Hd
set_option Elab.async false
set_option linter.all false
set_option maxRecDepth 100000
set_option maxHeartbeats 1000000
namespace Hd
open PySem PySem.Spec PyProof.Rows L2 Gk GenW
/-- only errors of the class at C -/
def EB (C : Addr) (E : XK) : XK := fun cls d H => cls = .ref C ∧ E cls d H
theorem Out.eb {C : Addr} {f : Str} {v : V} {H : Hp} {E : XK} (h : Out C f v H E) : Out C f v H (EB C E) := fun d hd => ⟨rfl, h d hd⟩
theorem eb_stop {K : PySem.W.Frag} {mg : Str → Option Value} {S C : Addr} {nm f : Str} {E : XK} (e : E1 K mg S C nm f) : NoStop K (EB C E) := fun cls d H h => by
  rw [h.1]
  exact e.xc.noStop
def spCount (K : PySem.W.Frag) (C : Addr) : Sp := fun vs H Q E => ∃ v d, vs = [v] ∧ Dq K H v d ∧
  (∀ n : Nat, d = .int n → 1 ≤ n → n ≤ 6 → ∀ H', Same H H' → Q (.int ((rows n).length : Nat)) H') ∧ (cntD d = false → ∀ v' H', Same H H' → Dq K H' v' (unD d) → Out C "count" v' H' E)
theorem sc14 : FnScope ["count"] ["count"] (defScope (topS 14)) := ⟨rfl, rfl, rfl, by decide +kernel, rfl, by decide +kernel, by decide +kernel⟩
section
variable {P : Program} {w : World} {K : PySem.W.Frag} {mg : Str → Option Value} {base : Heap}
theorem b_all {f : Addr} {fd : FuncData} (F : Fun K "all_groupings" "all_groupings" (topS 13) f fd) : Binds K fd ["count"] [] := F.binds fun _ _ _ _ _ _ us hl => match us, hl with | [_], _ => rfl
theorem ok_count {f fA S C : Addr} {fd dA : FuncData} (F : Fun K "count_groupings" "count_groupings" (topS 14) f fd) (T : TD mg) (FA : Fun K "all_groupings" "all_groupings" (topS 13) fA dA) (gA : mg "all_groupings" = some (.ref fA))
    (GA : GFn P w K mg base 4 fA dA ["count"] (spAllG K C)) (EC : E1 K mg S C "BadCount" "count") : FnOk P w K mg base (L2.CX P w) 8 f fd ["count"] (spCount K C) := by
  refine F.okX sc14 (fun vs H Q E h => ?_) (fun cdv A outer s H vs Q E hr h => ?_)
  · obtain ⟨v, d, rfl, _⟩ := h
    rfl
  · obtain ⟨v, d, rfl, hd, q1, q2⟩ := h
    refine ⟨_, pss_one (ps_ret (pe_callB call_len_seq (by rfl) T.len boot_len (pa_cons (pe_listGS (k := 4) (E := fun _ => EB C E) (tg := fun _ => tCallG (spAllG K C) [] (EB C E) (tCons (tVar 0) tNil))
      (fun _ => pgen_call GA (hr.mono (by decide)) (by rfl) gA FA.kp (b_all FA) .nil (pa_cons (pv 0) pa_nil)) (fun σ pins H s e s' I c => passes_call (takes_of rfl rfl rfl rfl) (fun _ _ _ _ h => h.2) pins σ H s e s' I c) (fun _ => eb_stop EC) hr (by rfl) T.list) pa_nil))), ?_⟩
    refine ⟨_, rfl, v, d, rfl, hd, fun n e n1 n6 ys H' s hx => fun p hp => ?_, fun hc v' H' s hv => Out.eb (q2 hc v' H' s hv)⟩
    refine ⟨p, ys, rfl, .inl (SqL.of upd_same), ?_⟩
    have l : ys.length = (rows n).length := by rw [hx.length, List.length_map]
    rw [l]
    exact q1 n e n1 n6 _ (s.trans (same_upd' hp))
end
end Hd
set_option Elab.async false
set_option linter.all false
set_option maxRecDepth 100000
set_option maxHeartbeats 1000000
namespace Hd
open PySem PySem.Spec PyProof.Rows L2 Gk
abbrev rTupOf (K : PySem.W.Frag) : List V → Hp → VK → Prop := fun xs H Q => ∃ p ys, xs = [.ref p] ∧ ((SqL K H p ys ∧ ∀ l, H l = none → Q (.ref l) (upd H l (.tup ys))) ∨ (SqT K H p ys ∧ Q (.ref p) H))
section
variable {K : PySem.W.Frag} {b : Addr} {xs : List V} {te : TE} {vs : List Nat} {i j : Nat} {σ : L2.St} {H : Hp} {R : VK} {s : Str}
/-- (s, tuple([.. for .. in what stands in slot i])) -/
theorem row_ev (f : V → V) (hv : σ[i]? = some (some (.ref b))) (hn : xs.length ≤ 1000) (hw : ∀ x, wipe ((wipe σ vs).set j (some x)) vs = wipe σ vs) (hq : SqS K H b xs)
    (he : ∀ (x : V) (H' : Hp) (R : VK), x ∈ xs → R (f x) H' → te ((wipe σ vs).set j (some x)) H' R)
    (k : ∀ (p l : Addr) (H' : Hp), Same H H' → H' l = some (.tup (xs.map f)) → H' p = some (.tup [.str s, .ref l]) → H p = none → R (.ref p) H') :
    tTup (tCons (tC (.str s)) (tCons (tCB (rTupOf K) (tCons (tLc (iSeqS K (tVar i)) (gName j) tYes te vs) tNil)) tNil)) σ H R := by
  refine lcS_ev (Q := fun v H1 => rTupOf K [v] H1 fun t H2 => ([.str s, t] : List V).length ≤ sizeLine ∧ ∀ p, H2 p = none → R (.ref p) (upd H2 p (.tup [.str s, t]))) hv (fun t => (xs.take t).map f) rfl
    (fun t _ => by rw [List.length_map, List.length_take]; omega) hn hw hq (fun t x H' R' N hx _ kR _ => ?_) fun D H' sm hD hd => ?_
  · refine he x H' _ (List.mem_of_getElem? hx) (kR H' _ (Same.refl H') ?_)
    show (xs.take (t + 1)).map f = _
    rw [List.take_add_one, hx, List.map_append]
    rfl
  · rw [List.take_length] at hd
    refine ⟨D, _, rfl, .inl ⟨SqL.of hd, fun l hl => ⟨(by show 2 ≤ sizeLine; decide), fun p hp => ?_⟩⟩⟩
    have s1 := same_upd' (o := .tup (xs.map f)) hl
    refine k p l _ ((sm.trans s1).trans (same_upd' hp)) (same_upd' hp _ _ upd_same) upd_same ?_
    cases e : H p with
    | none => rfl
    | some o =>
      rw [s1 _ _ (sm _ _ e)] at hp
      cases hp
end
/-- the row of group j -/
def markI (j : Int) (o : Option Int) : Int := if o = some j then 1 else 0
def markV (j : Int) (v : V) : V := .int (if v = .int j then 1 else 0)
theorem mark_oV (j : Int) (o : Option Int) : markV j (oV o) = .int (markI j o) := by
  unfold markV markI
  cases o with
  | none => simp [oV]
  | some i => simp [oV]
def rowD (os : List (Option Int)) (j : Int) : PyData := .tuple [.str "column", .tuple (os.map fun o => .int (markI j o))]
def bookD (os : List (Option Int)) : PyData := .tuple ((List.range (manyI (got os)).toNat).map fun (j : Nat) => rowD os j)
theorem rowD_dq {K : PySem.W.Frag} {H : Hp} {os : List (Option Int)} {j : Int} {p l : Addr} (hl : H l = some (.tup ((os.map oV).map (markV j)))) (hp : H p = some (.tup [.str "column", .ref l])) : Dq K H (.ref p) (rowD os j) := by
  refine .tup (.inl (.inl hp)) (.cons (.str _) (.cons (.tup (.inl (.inl hl)) ?_) .nil))
  rw [List.map_map]
  clear hl
  induction os with
  | nil => exact .nil
  | cons o os ih =>
    refine .cons ?_ ih
    show Dq K H (markV j (oV o)) _
    rw [mark_oV]
    exact .int _
def spBook (K : PySem.W.Frag) : Sp := fun vs H Q _ => ∃ (b : Addr) (os : List (Option Int)), vs = [.ref b] ∧ SqS K H b (os.map oV) ∧ os.length ≤ 1000 ∧ 0 ≤ manyI (got os) ∧ manyI (got os) ≤ 100 ∧ ∀ v H', Same H H' → Dq K H' v (bookD os) → Q v H'
abbrev nBook : List Str := ["grouping", "book", "group", "item"]
theorem sc15 : FnScope nBook ["grouping"] (defScope (topS 15)) := ⟨rfl, rfl, rfl, by decide +kernel, rfl, by decide +kernel, by decide +kernel⟩
/-- behind i groups: D the book so far -/
def PvBook (K : PySem.W.Frag) (H : Hp) (os : List (Option Int)) (b D : Addr) (i : Nat) : L2.St → Hp → Prop := fun σ H1 => ∃ (x2 : Option V) (acc : List V), σ = [some (.ref b), some (.ref D), x2, none] ∧ Same H H1 ∧ H1 D = some (.lst acc) ∧ acc.length = i ∧
  DqAll K (delH H1 D) acc ((List.range i).map fun (j : Nat) => rowD os j)
section
variable {P : Program} {w : World} {K : PySem.W.Frag} {mg : Str → Option Value} {base : Heap}
theorem ok_book {f fG : Addr} {fd dG : FuncData} (F : Fun K "book_of" "book_of" (topS 15) f fd) (T : TD mg) (FG : Fun K "groups_many" "groups_many" (topS 11) fG dG) (gG : mg "groups_many" = some (.ref fG)) : FnOk P w K mg base CX0 2 f fd ["grouping"] (spBook K) := by
  have GG : FnOk P w K mg base CX0 1 fG dG ["grouping"] (spGMany K) := ok_gmany FG T
  have bG : Binds K dG ["grouping"] [] := FG.binds fun _ _ _ _ _ _ us hl => match us, hl with | [_], _ => rfl
  refine F.ok sc15 (fun vs H Q E h => ?_) (fun cdv A outer s H vs Q E hr h => ?_)
  · obtain ⟨b, os, rfl, _⟩ := h
    rfl
  · obtain ⟨b, os, rfl, hs, hl, m0, m9, q⟩ := h
    refine ⟨_, pss_cons (ps_set (i := 1) sc15.nd rfl (.inl rfl) (pe_lst pa_nil))
      (pss_cons (ps_for PassesOwn.never rfl (pi_range1 (by rfl) T.range (pa_cons (pe_call GG hr (by rfl) gG FG.kp bG .nil pass0 (pa_cons (pv 0) pa_nil)) pa_nil)) (pg_name (i := 2) sc15.nd rfl (.inr rfl))
        (pss_one (ps_expr (pe_bm PySem.F.plainAttrs_list PySem.F.slot_list_append PySem.F.type_list_append mt_append (pv 1)
          (pa_cons (pe_tup (pa_cons pe_str (pa_cons (pe_callTy call_tuple_of (by rfl) T.tuple (by decide +kernel) (pa_cons (pe_lc (own := [("item", 3)]) (g := gName 3) (tt := tYes) (te := tIf (tTest (tOp rEq (tVar 3) (tVar 2))) (tC (.int 1)) (tC (.int 0))) rfl sc15.nd (pi_seqS (pv 0))
            (blkOk_by (N := nBook) (sc := defScope (topS 15)) (by decide +kernel)) (fun _ _ _ _ _ => pg_name (i := 3) sc15.nd rfl (.inl rfl)) (fun _ _ _ _ _ => pts_nil) (fun _ _ _ _ _ => pe_ifExp (pt_cmpR op_eq (pv 3) (pv 2) (nomark _)) pe_int pe_int)) pa_nil)) pa_nil))) pa_nil)))))
      (pss_one (ps_ret (pe_callTy call_tuple_of (by rfl) T.tuple (by decide +kernel) (pa_cons (pv 1) pa_nil))))), ?_⟩
    refine ⟨Nat.zero_le _, fun D hD => ?_⟩
    have s0 := same_upd' (o := .lst []) hD
    refine ⟨_, rfl, b, os, rfl, hs.same s0, hl, fun H1 s1 => ?_⟩
    refine ⟨_, rfl, by omega, by omega, for_range (PvBook K H os b D) ⟨none, [], rfl, s0.trans s1, s1 _ _ upd_same, rfl, .nil⟩ ?_ ?_⟩
    · rintro i σ H2 hi ⟨x2, acc, rfl, s2, hA, la, da⟩
      refine ⟨_, rfl, .inl ⟨rfl, _, SqL.of hA⟩, ?_⟩
      refine row_ev (R := fun x H3 => rAppend (.ref D) [x] H3 fun _ H4 => PvBook K H os b D (i + 1) [some (.ref b), some (.ref D), some (.int (0 + (i : Int))), none] H4) (xs := os.map oV) (markV (0 + (i : Int))) rfl (by rw [List.length_map]; exact hl) (fun _ => rfl) (hs.same s2) (fun x H' R hx hR => ?_) fun p l H' sm hl' hp' hp0 => ?_
      · obtain ⟨o, _, rfl⟩ := List.mem_map.mp hx
        refine ⟨_, rfl, _, rfl, ?_, _, rfl, ?_⟩
        · cases o <;> rfl
        · refine ite2 (fun z => ?_) (fun z => ?_)
          · unfold markV at hR
            rw [if_pos (of_decide_eq_true z)] at hR
            exact hR
          · unfold markV at hR
            rw [if_neg (fun y => z (decide_eq_true y))] at hR
            exact hR
      · have np : p ≠ D := fun z => by rw [z, hA] at hp0; cases hp0
        have nl : l ≠ D := fun z => by rw [z, sm _ _ hA] at hl'; cases hl'
        refine ⟨D, acc, .ref p, rfl, rfl, sm _ _ hA, ?_, some (.int (0 + (i : Int))), acc ++ [.ref p], rfl, ?_, upd_same, ?_, ?_⟩
        · rw [sizeLine_eq]
          omega
        · intro c o z
          rw [upd_ne (ne_of_none z hD)]
          exact sm _ _ (s2 c o z)
        · rw [List.length_append, la]
          rfl
        · have bt : But D H2 (upd H' D (.lst (acc ++ [.ref p]))) := (But.of sm).trans but_upd
          have e2 : ((List.range (i + 1)).map fun (j : Nat) => rowD os j) = ((List.range i).map fun (j : Nat) => rowD os j) ++ [rowD os (i : Int)] := by
            simp [List.range_succ]
          rw [e2]
          rw [Int.zero_add] at hl'
          refine (dhA_but bt da).append (.cons (rowD_dq (l := l) ?_ ?_) .nil)
          · rw [delH_ne nl, upd_ne nl]
            exact hl'
          · rw [delH_ne np, upd_ne np]
            exact hp'
    · rintro σ H2 ⟨x2, acc, rfl, s2, hA, la, da⟩
      refine ⟨_, rfl, D, acc, rfl, .inl ⟨SqL.of hA, fun l hl => ?_⟩⟩
      exact q _ _ (s2.trans (same_upd' hl)) (.tup (.inl (.inl upd_same)) (dqAll_same (same_upd' hl) _ _ (dqAll_same del_same _ _ da)))
end
end Hd
set_option Elab.async false
set_option linter.all false
set_option maxRecDepth 100000
set_option maxHeartbeats 1000000
namespace Hd
open PySem PySem.Spec PyProof.Rows L2 Gk GenW
/-- what comes of a wrong count, what else -/
def orBad (d t : PyData) : PyData := if cntD d = true then t else unD d
def allD (d : PyData) : PyData := .list ((rows (intOf d).toNat).map tupI)
def manyD (d : PyData) : PyData := .int ((rows (intOf d).toNat).length : Nat)
def spTold (K : PySem.W.Frag) (t : PyData → PyData) : Sp := fun vs H Q _ => ∃ v d, vs = [v] ∧ Dq K H v d ∧ ∀ v' H', Same H H' → Dq K H' v' (orBad d (.list [t d])) → Q v' H'
abbrev nTold : List Str := ["_law_count_here", "_law_told", "_law_wrong"]
theorem sc28 : FnScope nTold ["_law_count_here"] (defScope (topS 28)) := ⟨rfl, rfl, rfl, by decide +kernel, rfl, by decide +kernel, by decide +kernel⟩
theorem sc29 : FnScope nTold ["_law_count_here"] (defScope (topS 29)) := ⟨rfl, rfl, rfl, by decide +kernel, rfl, by decide +kernel, by decide +kernel⟩
theorem sc30 : FnScope nTold ["_law_count_here"] (defScope (topS 30)) := ⟨rfl, rfl, rfl, by decide +kernel, rfl, by decide +kernel, by decide +kernel⟩
/-- told = wrong.count -/
abbrev tsCount (C : Addr) : Addr → Value → Option Addr → TS := fun a cls d => tAsg (L2.tXf a cls d C "count" (tVar 2)) (gName 1)
section
variable {P : Program} {w : World} {K : PySem.W.Frag} {mg : Str → Option Value} {base : Heap}
/-- the suite of an error with this count -/
theorem caught {S C : Addr} {v0 v' : V} {x1 x2 : Option V} {H : Hp} {D : Ends} (EC : E1 K mg S C "BadCount" "count") (q : ∀ H', Same H H' → D.nx [some v0, some v', none] H') :
    Out C "count" v' H (WE (wAs K (.ref C) 2 (tsCount C) (fun _ _ _ _ => False) D) [some v0, x1, x2]) := fun d hd =>
  ⟨true, EC.xc.exmS, fun _ a _ => ⟨_, rfl, rfl, rfl, d, _, v', rfl, upd_same, rfl, q _ (same_upd' hd)⟩, fun z => nomatch z⟩
theorem ok_tAll {f fA S C : Addr} {fd dA : FuncData} (F : Fun K "_law_all" "_law_all" (topS 28) f fd) (T : TD mg) (FA : Fun K "all_groupings" "all_groupings" (topS 13) fA dA) (gA : mg "all_groupings" = some (.ref fA))
    (GA : GFn P w K mg base 4 fA dA ["count"] (spAllG K C)) (EC : E1 K mg S C "BadCount" "count") : FnOk P w K mg base CX0 8 f fd ["_law_count_here"] (spTold K allD) := by
  refine F.ok sc28 (fun vs H Q E h => ?_) (fun cdv A outer s H vs Q E hr h => ?_)
  · obtain ⟨v, d, rfl, _⟩ := h
    rfl
  · obtain ⟨v, d, rfl, hd, q⟩ := h
    have r4 := hr.mono (show 4 ≤ 7 by decide)
    refine ⟨_, pss_cons (ps_try_as (i := 2) (tb := fun W => tAsg (tLst (tCons (fun σ H Q => tListG (tCallG (spAllG K C) [] (EB C (WE W σ)) (tCons (tVar 0) tNil)) σ H Q) tNil)) (gName 1)) (ts := tsCount C) (Wout := fun _ _ _ _ => False) rfl rfl sc28.nd rfl rfl ⟨rfl, by decide, Or.inl EC.gm⟩ takes0
      (fun W pn xe tk _ => pss_one (ps_set (i := 1) sc28.nd rfl (.inl rfl) (by exact (pe_lst (pa_cons (pe_listGS (k := 4) (E := fun σ => EB C (WE W σ)) (tg := fun σ => tCallG (spAllG K C) [] (EB C (WE W σ)) (tCons (tVar 0) tNil))
        (fun σ => pgen_call GA r4 (by rfl) gA FA.kp (b_all FA) .nil (pa_cons (pv 0) pa_nil)) (fun σ => passB tk (· = .ref C) σ) (fun _ => eb_stop EC) hr (by rfl) T.list) pa_nil)))))
      (fun a oe cls d pn hz hf => pss_one (ps_set (i := 1) sc28.nd rfl (.inl rfl) (by exact (L2.pe_xf EC.xc.xf EC.no hz hf (pv 2))))))
      (pss_one (ps_ret (pv 1))), ?_⟩
    unfold orBad at q
    refine ⟨_, rfl, v, d, rfl, hd, fun n e n1 n6 ys H' s hx => fun p hp => ⟨(by show 1 ≤ sizeLine; decide), fun D hD => ?_⟩, fun hc v' H' s hv => Out.eb (caught EC fun H2 s2 => ?_)⟩
    · subst e
      have hc : cntD (.int (n : Int)) = true := by
        show (decide ((1 : Int) ≤ n) && decide ((n : Int) ≤ 6)) = true
        rw [decide_eq_true (by omega), decide_eq_true (by omega)]
        rfl
      rw [if_pos hc] at q
      have sp := same_upd' (o := .lst ys) hp
      have sD := same_upd' (o := .lst [.ref p]) hD
      refine ⟨_, rfl, q _ _ ((s.trans sp).trans sD) (.lst (.inl (.inl upd_same)) (.cons (.lst (.inl (.inl (sD _ _ upd_same))) ?_) .nil))⟩
      exact dqAll_same sD _ _ (dqAll_same sp _ _ hx)
    · rw [hc, if_neg Bool.false_ne_true] at q
      exact ⟨_, rfl, q _ _ (s.trans s2) (dq_same s2 _ _ hv)⟩
theorem ok_tCounted {f fO S C : Addr} {fd dO : FuncData} (F : Fun K "_law_counted" "_law_counted" (topS 29) f fd) (T : TD mg) (FO : Fun K "count_groupings" "count_groupings" (topS 14) fO dO) (gO : mg "count_groupings" = some (.ref fO))
    (GO : FnOk P w K mg base (L2.CX P w) 8 fO dO ["count"] (spCount K C)) (EC : E1 K mg S C "BadCount" "count") : FnOk P w K mg base CX0 9 f fd ["_law_count_here"] (spTold K manyD) := by
  have bO : Binds K dO ["count"] [] := FO.binds fun _ _ _ _ _ _ us hl => match us, hl with | [_], _ => rfl
  refine F.ok sc29 (fun vs H Q E h => ?_) (fun cdv A outer s H vs Q E hr h => ?_)
  · obtain ⟨v, d, rfl, _⟩ := h
    rfl
  · obtain ⟨v, d, rfl, hd, q⟩ := h
    refine ⟨_, pss_cons (ps_try_as (i := 2) (tb := fun W => tAsg (tLst (tCons (tCallS (spCount K C) (WE W) (tCons (tVar 0) tNil)) tNil)) (gName 1)) (ts := tsCount C) (Wout := fun _ _ _ _ => False) rfl rfl sc29.nd rfl rfl ⟨rfl, by decide, Or.inl EC.gm⟩ takes0
      (fun W pn xe tk _ => pss_one (ps_set (i := 1) sc29.nd rfl (.inl rfl) (by exact (pe_lst (pa_cons (pe_callS GO hr rfl gO FO.kp bO (fun σ => passAt tk σ) (pa_cons (pv 0) pa_nil)) pa_nil)))))
      (fun a oe cls d pn hz hf => pss_one (ps_set (i := 1) sc29.nd rfl (.inl rfl) (by exact (L2.pe_xf EC.xc.xf EC.no hz hf (pv 2))))))
      (pss_one (ps_ret (pv 1))), ?_⟩
    unfold orBad at q
    refine ⟨_, rfl, v, d, rfl, hd, fun n e n1 n6 H' s => ⟨(by show 1 ≤ sizeLine; decide), fun D hD => ?_⟩, fun hc v' H' s hv => caught EC fun H2 s2 => ?_⟩
    · subst e
      have hc : cntD (.int (n : Int)) = true := by
        show (decide ((1 : Int) ≤ n) && decide ((n : Int) ≤ 6)) = true
        rw [decide_eq_true (by omega), decide_eq_true (by omega)]
        rfl
      rw [if_pos hc] at q
      exact ⟨_, rfl, q _ _ (s.trans (same_upd' hD)) (.lst (.inl (.inl upd_same)) (.cons (.int _) .nil))⟩
    · rw [hc, if_neg Bool.false_ne_true] at q
      exact ⟨_, rfl, q _ _ (s.trans s2) (dq_same s2 _ _ hv)⟩
theorem ok_tCount {f fC S C : Addr} {fd dC : FuncData} (F : Fun K "_law_count" "_law_count" (topS 30) f fd) (T : TD mg) (FC : Fun K "check_count" "check_count" (topS 12) fC dC) (gC : mg "check_count" = some (.ref fC))
    (GC : FnOk P w K mg base (L2.CX P w) 3 fC dC ["count"] (spCheck K C)) (EC : E1 K mg S C "BadCount" "count") : FnOk P w K mg base CX0 4 f fd ["_law_count_here"] (spTold K id) := by
  have bC : Binds K dC ["count"] [] := FC.binds fun _ _ _ _ _ _ us hl => match us, hl with | [_], _ => rfl
  refine F.ok sc30 (fun vs H Q E h => ?_) (fun cdv A outer s H vs Q E hr h => ?_)
  · obtain ⟨v, d, rfl, _⟩ := h
    rfl
  · obtain ⟨v, d, rfl, hd, q⟩ := h
    refine ⟨_, pss_cons (ps_try_as (i := 2) (tb := fun W => tAsg (tLst (tCons (tCallS (spCheck K C) (WE W) (tCons (tVar 0) tNil)) tNil)) (gName 1)) (ts := tsCount C) (Wout := fun _ _ _ _ => False) rfl rfl sc30.nd rfl rfl ⟨rfl, by decide, Or.inl EC.gm⟩ takes0
      (fun W pn xe tk _ => pss_one (ps_set (i := 1) sc30.nd rfl (.inl rfl) (by exact (pe_lst (pa_cons (pe_callS GC hr rfl gC FC.kp bC (fun σ => passAt tk σ) (pa_cons (pv 0) pa_nil)) pa_nil)))))
      (fun a oe cls d pn hz hf => pss_one (ps_set (i := 1) sc30.nd rfl (.inl rfl) (by exact (L2.pe_xf EC.xc.xf EC.no hz hf (pv 2))))))
      (pss_one (ps_ret (pv 1))), ?_⟩
    unfold orBad at q
    refine ⟨_, rfl, v, d, rfl, hd, fun hc => ⟨(by show 1 ≤ sizeLine; decide), fun D hD => ?_⟩, fun hc v' H' s hv => caught EC fun H2 s2 => ?_⟩
    · rw [if_pos hc] at q
      exact ⟨_, rfl, q _ _ (same_upd' hD) (.lst (.inl (.inl upd_same)) (.cons (dq_same (same_upd' hD) _ _ hd) .nil))⟩
    · rw [hc, if_neg Bool.false_ne_true] at q
      exact ⟨_, rfl, q _ _ (s.trans s2) (dq_same s2 _ _ hv)⟩
end
end Hd
set_option Elab.async false
set_option linter.all false
set_option maxRecDepth 100000
set_option maxHeartbeats 1000000
namespace Hd
open PySem PySem.Spec PyProof.Rows L2 Gk GenW
def oB : Option Bool → V
  | none => .non
  | some b => .bl b
/-- what a checked grouping gives: its items, or where the fault is -/
def chkD (m : Int) (g : Bool) (d : PyData) : PyData := match badD m g d with
  | some i => .list [.int i]
  | none => .tuple (itemsD d)
def spChecked (K : PySem.W.Frag) : Sp := fun vs H Q _ => ∃ (m : Int) (v : V) (d : PyData) (og : Option Bool), vs = [.int m, v, oB og] ∧ Dq K H v d ∧ ∀ v' H', Same H H' → Dq K H' v' (chkD m (og.getD false) d) → Q v' H'
abbrev nChk : List Str := ["_law_count_here", "_law_grouping_here", "_law_gaps", "_law_told", "_law_wrong"]
theorem sc31 : FnScope nChk ["_law_count_here", "_law_grouping_here", "_law_gaps"] (defScope (topS 31)) := ⟨rfl, rfl, rfl, by decide +kernel, rfl, by decide +kernel, by decide +kernel⟩
abbrev pCG : List Str := ["count", "grouping", "gaps"]
theorem b_cg {K : PySem.W.Frag} {f : Addr} {fd : FuncData} (F : FnD K "check_grouping" 10 [.bl false] f fd) : ∃ ds, Vals [.bl false] ds ∧ Binds K fd pCG ds :=
  F.binds1 (ps := pCG) 2 0 (by simp) rfl fun T kV doc pm an cdv ct us its h1 h2 => match us, its, h1, h2 with | [_, _], [_], _, _ => ⟨_, rfl, rfl⟩
def swp {α : Type} (us ws : List α) : List α := us ++ (ws.drop 1 ++ ws.take 1)
theorem vals_take : ∀ {vs : List V} {us : List Value} (n : Nat), Vals vs us → Vals (vs.take n) (us.take n)
  | _, _, 0, _ => .nil
  | _, _, _ + 1, .nil => .nil
  | _, _, n + 1, .cons a b => .cons a (vals_take n b)
theorem kb_cg {K : PySem.W.Frag} {f : Addr} {fd : FuncData} (F : FnD K "check_grouping" 10 [.bl false] f fd) : KBn K fd pCG 1 ["gaps", "grouping"] swp swp :=
  kb_all F 1 ["gaps", "grouping"] swp (by simp) (fun r1 r2 => r1.append ((r2.drop 1).append (vals_take 1 r2))) fun T kV doc pm an cdv ct us its ws h1 h2 h3 => match us, its, ws, h1, h2, h3 with | [_], [_], [_, _], _, _, _ => ⟨_, rfl, rfl⟩
/-- told = [wrong.index] -/
abbrev tsIndex (C : Addr) : Addr → Value → Option Addr → TS := fun a cls d => tAsg (tLst (tCons (L2.tXf a cls d C "index" (tVar 4)) tNil)) (gName 3)
abbrev tIsN (i : Nat) : TT := tTest (tOp (fun x y H Q => y = .non ∧ Q (.bl (decide (x = .non))) H) (tVar i) (tC .non))
section
variable {P : Program} {w : World} {K : PySem.W.Frag} {mg : Str → Option Value} {base : Heap}
theorem caughtI {S C : Addr} {v0 v1 v2 : V} {v' : Int} {x1 x2 : Option V} {H : Hp} {D : Ends} (EC : E1 K mg S C "BadGrouping" "index") (q : ∀ H' p, Same H H' → H' p = some (.lst [.int v']) → D.nx [some v0, some v1, some v2, some (.ref p), none] H') :
    Out C "index" (.int v') H (WE (wAs K (.ref C) 4 (tsIndex C) (fun _ _ _ _ => False) D) [some v0, some v1, some v2, x1, x2]) := fun d hd =>
  ⟨true, EC.xc.exmS, fun _ a _ => ⟨_, rfl, rfl, rfl, d, _, _, rfl, upd_same, rfl, (by show 1 ≤ sizeLine; decide), fun p hp => q _ p ((same_upd' hd).trans (same_upd' hp)) upd_same⟩, fun z => nomatch z⟩
theorem ok_tChecked {f fG S C : Addr} {fd dG : FuncData} (F : Fun K "_law_checked" "_law_checked" (topS 31) f fd) (T : TD mg) (FG : FnD K "check_grouping" 10 [.bl false] fG dG) (gG : mg "check_grouping" = some (.ref fG))
    (GG : FnOk P w K mg base (L2.CX P w) 3 fG dG ["count", "grouping", "gaps"] (spCG K C)) (EC : E1 K mg S C "BadGrouping" "index") : FnOk P w K mg base CX0 4 f fd ["_law_count_here", "_law_grouping_here", "_law_gaps"] (spChecked K) := by
  obtain ⟨ds, rd, bG⟩ := b_cg FG
  refine F.ok sc31 (fun vs H Q E h => ?_) (fun cdv A outer s H vs Q E hr h => ?_)
  · obtain ⟨m, v, d, og, rfl, _⟩ := h
    rfl
  · obtain ⟨m, v, d, og, rfl, hd, q⟩ := h
    refine ⟨_, pss_cons (ps_try_as (i := 4) (tb := fun W => tIfS (tIsN 2) (tAsg (tCallSD (spCG K C) [.bl false] (WE W) (tCons (tVar 0) (tCons (tVar 1) tNil))) (gName 3)) (tAsg (tCallNS 1 2 (spCG K C) swp (WE W) (tCons (tVar 0) tNil) (tCons (tVar 2) (tCons (tVar 1) tNil))) (gName 3)))
        (ts := tsIndex C) (Wout := fun _ _ _ _ => False) rfl rfl sc31.nd rfl rfl ⟨rfl, by decide, Or.inl EC.gm⟩ takes0
      (fun W pn xe tk _ => pss_one (ps_if (by exact (pt_cmpR op_isN (pv 2) pe_non (nomark _))) (pss_one (ps_set (i := 3) sc31.nd rfl (.inl rfl) (by exact (pe_callSD GG hr rfl gG FG.kp bG rd (fun σ => passAt tk σ) (pa_cons (pv 0) (pa_cons (pv 1) pa_nil))))))
        (pss_one (ps_set (i := 3) sc31.nd rfl (.inl rfl) (by exact (pe_callNS (ks := ["gaps", "grouping"]) GG hr rfl gG FG.kp (kb_cg FG) (fun σ => passAt tk σ) (pa_cons (pv 0) pa_nil) (pk_cons (pv 2) (pk_cons (pv 1) pk_nil))))))))
      (fun a oe cls d pn hz hf => pss_one (ps_set (i := 3) sc31.nd rfl (.inl rfl) (by exact (pe_lst (pa_cons (L2.pe_xf EC.xc.xf EC.no hz hf (pv 4)) pa_nil))))))
      (pss_one (ps_ret (pv 3))), ?_⟩
    have bad : ∀ i, badD m (og.getD false) d = some i → ∀ (H1 H' : Hp) (p : Addr), Same H H' → H' p = some (.lst [.int i]) → Q (.ref p) H' := fun i e H1 H' p s hp =>
      q _ _ s (by unfold chkD; rw [e]; exact .lst (.inl (.inl hp)) (.cons (.int i) .nil))
    have good : badD m (og.getD false) d = none → ∀ v' H', Same H H' → Dq K H' v' (.tuple (itemsD d)) → Q v' H' := fun e v' H' s hv => q v' H' s (by unfold chkD; rw [e]; exact hv)
    refine ⟨_, rfl, rfl, _, rfl, ?_⟩
    cases og with
    | none =>
      refine ite2 (fun _ => ?_) (fun z => absurd rfl z)
      exact ⟨_, rfl, _, rfl, m, v, d, false, rfl, hd, fun i e H' s => caughtI EC fun H2 p s2 hp => ⟨_, rfl, bad i e H H2 p (s.trans s2) hp⟩, fun e v' H' s hv => ⟨_, rfl, good e v' H' s hv⟩⟩
    | some b =>
      refine ite2 (fun z => (nomatch (of_decide_eq_true z))) (fun _ => ?_)
      exact ⟨_, rfl, _, rfl, _, rfl, rfl, rfl, m, v, d, b, rfl, hd, fun i e H' s => caughtI EC fun H2 p s2 hp => ⟨_, rfl, bad i e H H2 p (s.trans s2) hp⟩, fun e v' H' s hv => ⟨_, rfl, good e v' H' s hv⟩⟩
end
end Hd
set_option Elab.async false
set_option linter.all false
set_option maxRecDepth 100000
set_option maxHeartbeats 1000000
namespace Hd
open PySem PySem.Spec PyProof.Rows L2 Gk GenW
/-- xs[i], xs a list or a tuple -/
abbrev rIxB (K : PySem.W.Frag) : R2 := fun x y H Q => ∃ p xs i v, x = .ref p ∧ y = .int i ∧ SqS K H p xs ∧ atI xs i = some v ∧ Q v H
theorem ix_both {X : Cx} : IxR X (rIxB X.K) := fun value slice pins s σ H x y v u Q I rx ry h hs => by
  obtain ⟨p, xs, i, z, e1, e2, hq, he, q⟩ := h
  rcases hq with hq | hq
  · exact ix_list value slice pins s σ H x y v u Q I rx ry ⟨p, xs, i, z, e1, e2, hq, he, q⟩ hs
  · exact ix_tup value slice pins s σ H x y v u Q I rx ry ⟨p, xs, i, z, e1, e2, hq, he, q⟩ hs
def spDue (K : PySem.W.Frag) : Sp := fun vs H Q _ => ∃ (m : Int) (v : V) (d : PyData) (g : Bool), vs = [.int m, v, .bl g] ∧ Dq K H v d ∧ (itemsD d).length ≤ 1000 ∧ ∀ v' H', Same H H' → Dq K H' v' (chkD m g d) → Q v' H'
abbrev nDue : List Str := ["_law_count_here", "_law_grouping_here", "_law_gaps", "_law_fresh", "_law_at"]
theorem sc32 : FnScope nDue ["_law_count_here", "_law_grouping_here", "_law_gaps"] (defScope (topS 32)) := ⟨rfl, rfl, rfl, by decide +kernel, rfl, by decide +kernel, by decide +kernel⟩
/-- behind i things -/
def PvDue (m : Int) (g : Bool) (b : Addr) (ds : List PyData) (H : Hp) (i : Nat) : L2.St → Hp → Prop := fun σ H' => ∃ (t : Int) (x4 : Option V), σ = [some (.int m), some (.ref b), some (.bl g), some (.int (t + 1)), x4] ∧ H' = H ∧ misD g (-1) 0 ds = misD g t i (ds.drop i)
section
variable {P : Program} {w : World} {K : PySem.W.Frag} {mg : Str → Option Value} {base : Heap}
theorem ok_due {f fQ fW fI : Addr} {fd dQ dW dI : FuncData} (F : Fun K "_law_checked_due" "_law_checked_due" (topS 32) f fd) (T : TD mg) (FQ : Fun K "_law_seq" "_law_seq" (topS 23) fQ dQ) (gQ : mg "_law_seq" = some (.ref fQ))
    (FW : Fun K "_law_within" "_law_within" (topS 25) fW dW) (gW : mg "_law_within" = some (.ref fW)) (FI : Fun K "_law_int" "_law_int" (topS 24) fI dI) (gI : mg "_law_int" = some (.ref fI)) :
    FnOk P w K mg base CX0 3 f fd ["_law_count_here", "_law_grouping_here", "_law_gaps"] (spDue K) := by
  have GQ : FnOk P w K mg base CX0 1 fQ dQ ["_law_thing"] (spSeqD K) := ok_seq FQ T
  have bQ : Binds K dQ ["_law_thing"] [] := FQ.binds fun _ _ _ _ _ _ us hl => match us, hl with | [_], _ => rfl
  have GW : FnOk P w K mg base CX0 2 fW dW ["_law_thing", "_law_low", "_law_high"] (spWithin K) := ok_within FW FI gI T
  have bW : Binds K dW ["_law_thing", "_law_low", "_law_high"] [] := FW.binds fun _ _ _ _ _ _ us hl => match us, hl with | [_, _, _], _ => rfl
  refine F.ok sc32 (fun vs H Q E h => ?_) (fun cdv A outer s H vs Q E hr h => ?_)
  · obtain ⟨m, v, d, g, rfl, _⟩ := h
    rfl
  · obtain ⟨m, v, d, g, rfl, hd, hz, q⟩ := h
    have r1 := hr.mono (show 1 ≤ 2 by decide)
    refine ⟨_, PSs.nox (pss_cons (ps_if (pt_not (pt_val (pe_call GQ r1 rfl gQ FQ.kp bQ .nil pass0 (pa_cons (pv 1) pa_nil)))) (pss_one (ps_ret (pe_lst (pa_cons pe_int pa_nil)))) pss_nil)
      (pss_cons (ps_set (i := 3) sc32.nd rfl (.inl rfl) pe_int)
      (pss_cons (ps_for PassesOwn.never rfl (pi_range1 (by rfl) T.range (pa_cons (pe_callB call_len_seq (by rfl) T.len boot_len (pa_cons (pv 1) pa_nil)) pa_nil)) (pg_name (i := 4) sc32.nd rfl (.inl rfl))
        (pss_cons (ps_if (PW.pt (pw_and (pt_cmpR op_isN (pe_ix ix_both (pv 1) (pv 4) (fun _ _ => rfl)) pe_non (nomark _)) (pw_and1 (pt_val (pv 2))))) (pss_one ps_continue) pss_nil)
        (pss_cons (ps_if (pt_not (pt_val (pe_call GW hr rfl gW FW.kp bW .nil pass0 (pa_cons (pe_ix ix_both (pv 1) (pv 4) (fun _ _ => rfl)) (pa_cons pe_int (pa_cons (pv 3) pa_nil)))))) (pss_one (ps_ret (pe_lst (pa_cons (pv 4) pa_nil)))) pss_nil)
        (pss_one (ps_set (i := 3) sc32.nd rfl (.inl rfl) (pe_callB (call_max2 rfl) (by rfl) T.max (by decide +kernel) (pa_cons (pv 3) (pa_cons (pe_op op_add (pe_ix ix_both (pv 1) (pv 4) (fun _ _ => rfl)) pe_int) pa_nil))))))))
      (pss_cons (ps_if (pt_cmpR op_ne (pe_callB call_len_seq (by rfl) T.len boot_len (pa_cons (pv 1) pa_nil)) (pv 0) (nomark _)) (pss_one (ps_ret (pe_lst (pa_cons
        (pe_callB (call_min2 rfl) (by rfl) T.min (by decide +kernel) (pa_cons (pe_callB call_len_seq (by rfl) T.len boot_len (pa_cons (pv 1) pa_nil)) (pa_cons (pv 0) pa_nil))) pa_nil)))) pss_nil)
      (pss_one (ps_ret (pe_callTy call_tuple_of (by rfl) T.tuple (by decide +kernel) (pa_cons (pv 1) pa_nil)))))))), ?_⟩
    have bad : ∀ i, badD m g d = some i → ∀ p, H p = none → Q (.ref p) (upd H p (.lst [.int i])) := fun i e p hp =>
      q _ _ (same_upd' hp) (by unfold chkD; rw [e]; exact .lst (.inl (.inl upd_same)) (.cons (.int i) .nil))
    have good : badD m g d = none → ∀ v' H', Same H H' → Dq K H' v' (.tuple (itemsD d)) → Q v' H' := fun e v' H' s hv => q v' H' s (by unfold chkD; rw [e]; exact hv)
    clear q
    unfold badD at bad good
    refine ⟨_, rfl, v, d, rfl, hd, _, rfl, ?_⟩
    refine ite2 (fun h1 => ?_) (fun h1 => ?_)
    · have e : seqD d = false := by simpa using h1
      rw [e] at bad
      exact ⟨(by show 1 ≤ sizeLine; decide), fun p hp => bad 0 rfl p hp⟩
    have e : seqD d = true := by simpa using h1
    rw [e, if_pos rfl] at bad good
    obtain ⟨b, xs, ds, rfl, hs, hx, ht⟩ := seq_v hd e
    have ei : itemsD d = ds := by
      rcases ht with ⟨rfl, _⟩ | ⟨rfl, _⟩ <;> rfl
    rw [ei] at bad good hz
    have lx : xs.length = ds.length := hx.length
    refine ⟨_, rfl, b, xs, rfl, hs, _, rfl, by omega, by omega, for_range (PvDue m g b ds H) ⟨-1, none, rfl, rfl, by rw [List.drop_zero]⟩ ?_ ?_⟩
    · rintro i σ H' hi ⟨t, x4, rfl, rfl, em⟩
      have il : i < xs.length := by omega
      have ex : xs[i]? = some xs[i] := List.getElem?_eq_getElem il
      obtain ⟨y, hy, hv⟩ := hx.get ex
      have dr : ds.drop i = y :: ds.drop (i + 1) := by
        have lt : i < ds.length := by omega
        rw [List.drop_eq_getElem_cons lt]
        rw [List.getElem?_eq_getElem lt] at hy
        rw [Option.some.inj hy]
      rw [dr] at em
      have ix : atI xs (0 + (i : Int)) = some xs[i] := at_item (by omega) (by rw [show ((0 + (i : Int))).toNat = i by omega]; exact ex)
      have nv := none_v hv
      -- the next turn
      have skip : (g && noneD y) = true → misD g (-1) 0 ds = misD g t (i + 1) (ds.drop (i + 1)) := fun z => by
        rw [em]
        show (if (g && noneD y) = true then _ else _) = _
        rw [if_pos z]
      have look : (g && noneD y) = false → misD g (-1) 0 ds = if wholeD (some 0) (some (t + 1)) y = true then misD g (if intOf y > t then intOf y else t) (i + 1) (ds.drop (i + 1)) else some i := fun z => by
        rw [em]
        show (if (g && noneD y) = true then _ else _) = _
        rw [if_neg (by rw [z]; exact Bool.false_ne_true)]
      refine ⟨_, rfl, _, rfl, b, xs, _, _, rfl, rfl, hs, ix, rfl, _, rfl, ?_⟩
      rw [nv]
      refine ite2 (fun hn => ?_) (fun hn => ?_)
      · refine ⟨_, rfl, g, rfl, ?_⟩
        refine ite2 (fun hg => ?_) (fun hg => ?_)
        · exact ⟨t, _, rfl, rfl, skip (by rw [hg, hn]; rfl)⟩
        have em2 := look (by rw [Bool.eq_false_iff.mpr hg]; rfl)
        refine ⟨_, rfl, _, rfl, b, xs, _, _, rfl, rfl, hs, ix, _, rfl, xs[i], y, 0, t + 1, rfl, hv, _, rfl, ?_⟩
        refine ite2 (fun hw => ?_) (fun hw => ?_)
        · rw [if_neg (by intro u; rw [u] at hw; cases hw)] at em2
          refine ⟨_, rfl, (by show 1 ≤ sizeLine; decide), fun p hp => ?_⟩
          rw [Int.zero_add]
          exact bad _ (by rw [em2]) p hp
        · have hw2 : wholeD (some 0) (some (t + 1)) y = true := by
            cases u : wholeD (some 0) (some (t + 1)) y with
            | true => rfl
            | false => exact absurd (by rw [u]; rfl) hw
          rw [if_pos hw2] at em2
          cases y with
          | int n =>
            have hn2 : xs[i] = .int n := int_v hv
            rw [hn2] at ix
            refine ⟨_, rfl, _, rfl, _, rfl, b, xs, _, _, rfl, rfl, hs, ix, _, _, rfl, rfl, _, _, rfl, ?_⟩
            refine ⟨if n > t then n else t, some (.int (0 + (i : Int))), ?_, rfl, em2⟩
            have eq : (if n + 1 > t + 1 then n + 1 else t + 1) = (if n > t then n else t) + 1 := by
              by_cases u : n > t
              · rw [if_pos u, if_pos (by omega)]
              · rw [if_neg u, if_neg (by omega)]
            rw [eq]
            rfl
          | _ => cases hw2
      · refine Eq.mpr (if_neg (by decide)) ?_
        have em2 := look (by rw [Bool.eq_false_iff.mpr hn, Bool.and_false])
        refine ⟨_, rfl, _, rfl, b, xs, _, _, rfl, rfl, hs, ix, _, rfl, xs[i], y, 0, t + 1, rfl, hv, _, rfl, ?_⟩
        refine ite2 (fun hw => ?_) (fun hw => ?_)
        · rw [if_neg (by intro u; rw [u] at hw; cases hw)] at em2
          refine ⟨_, rfl, (by show 1 ≤ sizeLine; decide), fun p hp => ?_⟩
          rw [Int.zero_add]
          exact bad _ (by rw [em2]) p hp
        · have hw2 : wholeD (some 0) (some (t + 1)) y = true := by
            cases u : wholeD (some 0) (some (t + 1)) y with
            | true => rfl
            | false => exact absurd (by rw [u]; rfl) hw
          rw [if_pos hw2] at em2
          cases y with
          | int n =>
            have hn2 : xs[i] = .int n := int_v hv
            rw [hn2] at ix
            refine ⟨_, rfl, _, rfl, _, rfl, b, xs, _, _, rfl, rfl, hs, ix, _, _, rfl, rfl, _, _, rfl, ?_⟩
            refine ⟨if n > t then n else t, some (.int (0 + (i : Int))), ?_, rfl, em2⟩
            have eq : (if n + 1 > t + 1 then n + 1 else t + 1) = (if n > t then n else t) + 1 := by
              by_cases u : n > t
              · rw [if_pos u, if_pos (by omega)]
              · rw [if_neg u, if_neg (by omega)]
            rw [eq]
            rfl
          | _ => cases hw2
    · rintro σ H' ⟨t, x4, rfl, rfl, em⟩
      rw [lx, Int.toNat_natCast, List.drop_length] at em
      have em2 : misD g (-1) 0 ds = none := em
      rw [em2] at bad good
      refine ⟨_, rfl, b, xs, rfl, hs, _, rfl, rfl, _, rfl, ?_⟩
      rw [lx]
      by_cases z : (ds.length : Int) = m
      · refine ite2 (fun y => ?_) (fun _ => ?_)
        · rw [z] at y
          simp at y
        · refine ⟨_, rfl, b, xs, rfl, ?_⟩
          rcases hs with h | h
          · exact .inl ⟨h, fun l hl => good (if_pos z) _ _ (same_upd' hl) (.tup (.inl (.inl upd_same)) (dqAll_same (same_upd' hl) _ _ hx))⟩
          · exact .inr ⟨h, good (if_pos z) _ _ (Same.refl _) (.tup h hx)⟩
      · refine ite2 (fun _ => ?_) (fun y => ?_)
        · refine ⟨_, rfl, b, xs, rfl, hs, _, rfl, _, _, rfl, (by show 1 ≤ sizeLine; decide), fun p hp => ?_⟩
          rw [lx]
          exact bad _ (if_neg z) p hp
        · refine absurd ?_ y
          simpa using z
end
end Hd
set_option Elab.async false
set_option linter.all false
set_option maxRecDepth 100000
set_option maxHeartbeats 1000000
namespace Hd
open PySem PySem.Spec PyProof.Rows L2 Gk GenW
def spBookDue (K : PySem.W.Frag) : Sp := spBook K
abbrev nBD : List Str := ["_law_grouping_here", "_law_groups", "_law_group", "_law_item"]
theorem sc33 : FnScope nBD ["_law_grouping_here"] (defScope (topS 33)) := ⟨rfl, rfl, rfl, by decide +kernel, rfl, by decide +kernel, by decide +kernel⟩
/-- the scope of the comprehension that is returned -/
def scB2 : Scope := { kind := .function, names := [(".0", .local), ("_law_group", .cell), ("tuple", .globalImplicit), ("_law_grouping_here", .cell)], isGenerator := false, isCoroutine := false }
abbrev rInt1 : List V → Hp → VK → Prop := fun xs H Q => (∃ i, xs = [.int i] ∧ Q (.int i) H) ∨ ∃ k, xs = [.bl k] ∧ Q (.int (if k then 1 else 0)) H
section
variable {P : Program} {w : World} {K : PySem.W.Frag} {mg : Str → Option Value} {base : Heap}
theorem ok_bookDue {f fM : Addr} {fd dM : FuncData} (F : Fun K "_law_book_due" "_law_book_due" (topS 33) f fd) (T : TD mg) (FM : Fun K "_law_many" "_law_many" (topS 20) fM dM) (gM : mg "_law_many" = some (.ref fM)) : FnOk P w K mg base CX0 2 f fd ["_law_grouping_here"] (spBook K) := by
  have GM : FnOk P w K mg base CX0 1 fM dM ["_law_letters"] (spMany K) := ok_many FM T
  have bM : Binds K dM ["_law_letters"] [] := FM.binds fun _ _ _ _ _ _ us hl => match us, hl with | [_], _ => rfl
  refine F.ok sc33 (fun vs H Q E h => ?_) (fun cdv A outer s H vs Q E hr h => ?_)
  · obtain ⟨b, os, rfl, _⟩ := h
    rfl
  · obtain ⟨b, os, rfl, hs, hl, m0, m9, q⟩ := h
    refine ⟨_, pss_cons (ps_setLc (i := 1) (own := [("_law_group", 2)]) (g := gName 2) (tt := tTest (tOp tNo (tVar 2) (tC .non))) (te := tVar 2) rfl sc33.nd rfl rfl (sw_true rfl rfl rfl (by decide +kernel)) (pi_seqS (pv 0)) (blkOk_by (N := nBD) (sc := defScope (topS 33)) (by decide +kernel))
        (fun _ _ _ _ _ => pg_name (i := 2) sc33.nd rfl (.inl rfl)) (fun _ _ _ _ _ => pts_one (pt_cmpR op_notN (pv 2) pe_non (nomark _))) (fun _ _ _ _ _ => pv 2))
      (pss_one (ps_ret (pe_callTy call_tuple_of (by rfl) T.tuple (by decide +kernel) (pa_cons (pe_lc (own := [("_law_group", 2)]) (g := gName 2) (tt := tYes)
        (te := tTup (tCons (tC (.str "column")) (tCons (tCB (rTupOf K) (tCons (tLc (iSeqS K (tVar 0)) (gName 3) tYes (tCB rInt1 (tCons (tOp rEq (tVar 3) (tVar 2)) tNil)) [3]) tNil)) tNil)))
        rfl sc33.nd (pi_range1 (by rfl) T.range (pa_cons (pe_call GM hr (by rfl) gM FM.kp bM .nil pass0 (pa_cons (pv 1) pa_nil)) pa_nil)) (blkOk_by (N := nBD) (sc := defScope (topS 33)) (by decide +kernel))
        (fun _ _ _ _ _ => pg_name (i := 2) sc33.nd rfl (.inr rfl)) (fun _ _ _ _ _ => pts_nil)
        (fun _ _ _ _ _ => by exact (pe_tup (pa_cons pe_str (pa_cons (pe_callTy call_tuple_of (by rfl) T.tuple (by decide +kernel) (pa_cons (pe_lc (own := [("_law_item", 3)]) (g := gName 3) (tt := tYes) (te := tCB rInt1 (tCons (tOp rEq (tVar 3) (tVar 2)) tNil)) rfl sc33.nd (pi_seqS (pv 0))
          (blkOk_by (N := nBD) (sc := scB2) (by decide +kernel)) (fun _ _ _ _ _ => pg_name (i := 3) sc33.nd rfl (.inl rfl)) (fun _ _ _ _ _ => pts_nil)
          (fun _ _ _ _ _ => pe_callTy call_int1 (by rfl) T.int boot_int (pa_cons (pe_cmpR op_eq (pv 3) (pv 2) (nomark _)) pa_nil))) pa_nil)) pa_nil))))) pa_nil)))), ?_⟩
    -- the groups that there are
    refine lcS_ev (Q := fun x H1 => tRet (tCB (rTupOf K) (tCons (tLc (iRng1 (tCons (tCall (spMany K) [] E0 (tCons (tVar 1) tNil)) tNil)) (gName 2) tYes
        (tTup (tCons (tC (.str "column")) (tCons (tCB (rTupOf K) (tCons (tLc (iSeqS K (tVar 0)) (gName 3) tYes (tCB rInt1 (tCons (tOp rEq (tVar 3) (tVar 2)) tNil)) [3]) tNil)) tNil))) [2]) tNil)) { nx := fun _ H' => Q .non H', rt := Q } [some (.ref b), some x, none, none] H1)
      (i := 0) (vs := [2]) (j := 2) (σ := [some (.ref b), none, none, none]) (te := tVar 2) (tt := tTest (tOp tNo (tVar 2) (tC .non))) rfl (fun i => (got (os.take i)).map V.int) rfl (fun i _ => by rw [List.length_map]; exact got_len os i) (by rw [List.length_map]; exact hl) (fun _ => rfl) hs (fun i x H' R N hi s kR kN => ?_) fun D H1 s1 hD hd => ?_
    · rw [List.getElem?_map] at hi
      cases ho : os[i]? with
      | none => rw [ho] at hi; cases hi
      | some o =>
        rw [ho] at hi
        cases (Option.some.inj hi)
        refine ⟨_, rfl, rfl, _, rfl, ?_⟩
        cases o with
        | none =>
          refine kN H' (Same.refl H') ?_
          show (got (os.take (i + 1))).map V.int = _
          rw [got_more ho]
          simp
        | some n =>
          refine ⟨_, rfl, ?_⟩
          refine kR H' _ (Same.refl H') ?_
          show (got (os.take (i + 1))).map V.int = _
          rw [got_more ho]
          simp
          rfl
    · rw [List.length_map, List.take_length] at hd
      refine ⟨_, rfl, D, got os, rfl, .inl (SqL.of hd), _, rfl, by omega, by omega, fun B hB => ?_⟩
      refine lc_range (fun i H' => Same H1 H' ∧ ∃ acc, H' B = some (.lst acc) ∧ acc.length = i ∧ DqAll K (delH H' B) acc ((List.range i).map fun (j : Nat) => rowD os j)) ⟨same_upd' hB, [], upd_same, rfl, .nil⟩ ?_ ?_
      · rintro i H2 hi ⟨s2, acc, hA, la, da⟩
        refine ⟨rfl, ?_⟩
        refine row_ev (R := fun y H4 => ∃ acc, H4 B = some (.lst acc) ∧ acc.length < sizeLine ∧ (Same H1 (upd H4 B (.lst (acc ++ [y]))) ∧ ∃ acc', (upd H4 B (.lst (acc ++ [y]))) B = some (.lst acc') ∧ acc'.length = i + 1 ∧ DqAll K (delH (upd H4 B (.lst (acc ++ [y]))) B) acc' ((List.range (i + 1)).map fun (j : Nat) => rowD os j)))
          (xs := os.map oV) (σ := [some (.ref b), some (.ref D), some (.int (0 + (i : Int))), none]) (markV (0 + (i : Int))) rfl (by rw [List.length_map]; exact hl) (fun _ => rfl) (hs.same (s1.trans s2)) (fun x H' R hx hR => ?_) fun p l H' sm hl' hp' hp0 => ?_
        · obtain ⟨o, _, rfl⟩ := List.mem_map.mp hx
          refine ⟨_, rfl, _, rfl, ?_, .inr ⟨_, rfl, ?_⟩⟩
          · cases o <;> rfl
          · unfold markV at hR
            by_cases z : oV o = V.int (0 + (i : Int))
            · rw [if_pos z] at hR
              rw [decide_eq_true z]
              exact hR
            · rw [if_neg z] at hR
              rw [decide_eq_false z]
              exact hR
        · have np : p ≠ B := fun z => by rw [z, hA] at hp0; cases hp0
          have nl : l ≠ B := fun z => by rw [z, sm _ _ hA] at hl'; cases hl'
          refine ⟨acc, sm _ _ hA, ?_, ?_, acc ++ [.ref p], upd_same, ?_, ?_⟩
          · rw [sizeLine_eq]
            omega
          · intro c o z
            rw [upd_ne (ne_of_none z hB)]
            exact sm _ _ (s2 c o z)
          · rw [List.length_append, la]
            rfl
          · have bt : But B H2 (upd H' B (.lst (acc ++ [.ref p]))) := (But.of sm).trans but_upd
            have e2 : ((List.range (i + 1)).map fun (j : Nat) => rowD os j) = ((List.range i).map fun (j : Nat) => rowD os j) ++ [rowD os (i : Int)] := by
              simp [List.range_succ]
            rw [e2]
            rw [Int.zero_add] at hl'
            refine (dhA_but bt da).append (.cons (rowD_dq (l := l) ?_ ?_) .nil)
            · rw [delH_ne nl, upd_ne nl]
              exact hl'
            · rw [delH_ne np, upd_ne np]
              exact hp'
      · rintro H2 ⟨s2, acc, hA, la, da⟩
        refine ⟨B, acc, rfl, .inl ⟨SqL.of hA, fun l hl => ?_⟩⟩
        exact q _ _ ((s1.trans s2).trans (same_upd' hl)) (.tup (.inl (.inl upd_same)) (dqAll_same (same_upd' hl) _ _ (dqAll_same del_same _ _ da)))
end
end Hd
set_option Elab.async false
set_option linter.all false
set_option maxRecDepth 100000
set_option maxHeartbeats 1000000
namespace Hd
open PySem PySem.Spec PyProof.Rows L2 Gk GenW
/-! ### what is shown -/
def rowsF (n : Nat) : Bool := (PyData.showable (.list ((rows n).map tupI))) && decide (PyData.depth (.list ((rows n).map tupI)) ≤ 4) && (PyData.leavesShort 40 (.list ((rows n).map tupI))) && decide (PyData.bulk (.list ((rows n).map tupI)) ≤ 10000)
theorem rowsF_ok : (List.range 7).all rowsF = true := by decide +kernel
theorem fine_rows {n : Nat} (h : n ≤ 6) : Fine 4 10000 (.list ((rows n).map tupI)) := by
  have z := List.all_eq_true.mp rowsF_ok n (List.mem_range.mpr (by omega))
  unfold rowsF at z
  simp only [Bool.and_eq_true, decide_eq_true_eq] at z
  exact ⟨z.1.1.1, z.1.1.2, z.1.2, z.2⟩
def oD : Option Int → PyData
  | none => .none
  | some i => .int i
theorem oD_v {K : PySem.W.Frag} {H : Hp} : ∀ {xs : List V} {os : List (Option Int)}, DqAll K H xs (os.map oD) → xs = os.map oV
  | [], [], _ => rfl
  | _, o :: os, .cons a b => by
    rw [oD_v b]
    cases o with
    | none => cases a; rfl
    | some i => cases a; rfl
theorem oD_dq {K : PySem.W.Frag} {H : Hp} : ∀ os : List (Option Int), DqAll K H (os.map oV) (os.map oD)
  | [] => .nil
  | none :: os => .cons .non (oD_dq os)
  | some i :: os => .cons (.int i) (oD_dq os)
/-- nothing is misnumbered -/
theorem mis_none : ∀ (ds : List PyData) (t : Int) (i : Nat), -1 ≤ t → misD true t i ds = none → ∃ os : List (Option Int), ds = os.map oD ∧ ∀ x ∈ got os, 0 ≤ x ∧ x ≤ t + ds.length
  | [], t, i, _, _ => ⟨[], rfl, fun x hx => nomatch hx⟩
  | d :: ds, t, i, ht, h => by
    have e : misD true t i (d :: ds) = if (true && noneD d) = true then misD true t (i + 1) ds else if wholeD (some 0) (some (t + 1)) d = true then misD true (if intOf d > t then intOf d else t) (i + 1) ds else some i := rfl
    rw [e] at h
    by_cases hn : noneD d = true
    · rw [if_pos (by rw [hn]; rfl)] at h
      obtain ⟨os, e1, e2⟩ := mis_none ds t (i + 1) ht h
      refine ⟨none :: os, ?_, fun x hx => ?_⟩
      · rw [e1]
        cases d with
        | none => rfl
        | _ => cases hn
      · have := e2 x hx
        rw [List.length_cons]
        omega
    · rw [if_neg (by rw [Bool.true_and]; exact hn)] at h
      by_cases hw : wholeD (some 0) (some (t + 1)) d = true
      · rw [if_pos hw] at h
        cases d with
        | int n =>
          have z : (decide ((0 : Int) ≤ n) && decide (n ≤ t + 1)) = true := hw
          simp only [Bool.and_eq_true, decide_eq_true_eq] at z
          have ht2 : (if intOf (.int n) > t then intOf (.int n) else t) ≤ t + 1 ∧ -1 ≤ (if intOf (.int n) > t then intOf (.int n) else t) := by
            show (if n > t then n else t) ≤ t + 1 ∧ -1 ≤ (if n > t then n else t)
            by_cases c : n > t
            · rw [if_pos c]; omega
            · rw [if_neg c]; omega
          obtain ⟨os, e1, e2⟩ := mis_none ds _ (i + 1) ht2.2 h
          refine ⟨some n :: os, by rw [e1]; rfl, fun x hx => ?_⟩
          rw [List.length_cons]
          rcases List.mem_cons.mp (show x ∈ n :: got os from hx) with y | y
          · rw [y]
            omega
          · have := e2 x y
            omega
        | _ => cases hw
      · rw [if_neg hw] at h
        cases h
theorem mis_lt : ∀ (ds : List PyData) (g : Bool) (t : Int) (i j : Nat), misD g t i ds = some j → j < i + ds.length
  | [], g, t, i, j, h => nomatch h
  | d :: ds, g, t, i, j, h => by
    have e : misD g t i (d :: ds) = if (g && noneD d) = true then misD g t (i + 1) ds else if wholeD (some 0) (some (t + 1)) d = true then misD g (if intOf d > t then intOf d else t) (i + 1) ds else some i := rfl
    rw [e] at h
    rw [List.length_cons]
    split at h
    · have := mis_lt ds g _ _ j h
      omega
    · split at h
      · have := mis_lt ds g _ _ j h
        omega
      · have := Option.some.inj h
        omega
theorem bad_le {m : Int} {g : Bool} {d : PyData} {i : Int} (m0 : 0 ≤ m) (l : (itemsD d).length ≤ 100) (h : badD m g d = some i) : 0 ≤ i ∧ i ≤ 100 := by
  unfold badD at h
  split at h
  · cases e : misD g (-1) 0 (itemsD d) with
    | some j =>
      rw [e] at h
      have z := mis_lt _ _ _ _ _ e
      have y := Option.some.inj h
      omega
    | none =>
      rw [e] at h
      dsimp only at h
      split at h
      · cases h
      · have y := Option.some.inj h
        rw [← y]
        split <;> omega
  · have y := Option.some.inj h
    omega
/-- a thing that may be shown, its items too -/
structure Good (d : PyData) : Prop where
  f : Fine 3 300 d
  l : (itemsD d).length ≤ 100
  e : ∀ x ∈ itemsD d, Fine 1 20 x
theorem good_list {es : List PyData} (l : es.length ≤ 10) (h : ∀ e ∈ es, Fine 1 20 e) : Good (.list es) :=
  ⟨(fine_list (m := 300) h (by omega)).up (by decide) (Nat.le_refl _), (by show es.length ≤ 100; omega), h⟩
theorem good_tuple {es : List PyData} (l : es.length ≤ 10) (h : ∀ e ∈ es, Fine 1 20 e) : Good (.tuple es) :=
  ⟨(fine_tuple (m := 300) h (by omega)).up (by decide) (Nat.le_refl _), (by show es.length ≤ 100; omega), h⟩
theorem good_rid : ∀ d ∈ rids, Good d := by
  intro d hd
  unfold rids at hd
  simp only [List.mem_cons, List.not_mem_nil, or_false] at hd
  rcases hd with rfl | rfl | rfl | rfl | rfl | rfl
  · exact ⟨⟨by decide +kernel, by decide +kernel, by decide +kernel, by decide +kernel⟩, by decide, fun x hx => nomatch hx⟩
  · exact ⟨⟨by decide +kernel, by decide +kernel, by decide +kernel, by decide +kernel⟩, by decide, fun x hx => nomatch hx⟩
  · exact ⟨⟨by decide +kernel, by decide +kernel, by decide +kernel, by decide +kernel⟩, by decide, fun x hx => nomatch hx⟩
  · exact ⟨⟨by decide +kernel, by decide +kernel, by decide +kernel, by decide +kernel⟩, by decide, fun x hx => nomatch hx⟩
  · exact good_tuple (by decide) fun e he => by
      rw [List.mem_singleton.mp he]
      exact (fine_int (by decide)).up (by decide) (by decide)
  · exact ⟨⟨by decide +kernel, by decide +kernel, by decide +kernel, by decide +kernel⟩, by decide, fun x hx => nomatch hx⟩
theorem good_spoilt {ds : List PyData} {od d' : PyData} (l : ds.length ≤ 8) (h : ∀ e ∈ ds, Fine 1 20 e) (ho : Fine 1 20 od) (s : Spoilt ds od d') : Good d' := by
  rcases s with s | ⟨es, rfl, le, he⟩
  · exact good_rid _ s
  · refine good_list (by omega) fun e hx => ?_
    rcases he e hx with z | z
    · exact h e z
    · rw [z]; exact ho
theorem fine_chk {m : Int} {g : Bool} {d : PyData} (m0 : 0 ≤ m) (G : Good d) : Fine 8 300000 (chkD m g d) := by
  unfold chkD
  cases e : badD m g d with
  | some i =>
    have z := bad_le m0 G.l e
    refine (fine_list (n := 0) (k := 0) (m := 10) (fun x hx => ?_) (by show (0 + 1) * 1 ≤ 10; decide)).up (by decide) (by decide)
    rw [List.mem_singleton.mp hx]
    exact fine_int (by omega)
  | none =>
    have l := G.l
    exact (fine_tuple (m := 3000) G.e (by omega)).up (by decide) (by decide)
theorem mark_le (j : Int) (o : Option Int) : (markI j o).natAbs < 10 ^ 12 := by
  unfold markI
  split <;> decide
theorem fine_book {os : List (Option Int)} (l : os.length ≤ 100) (h : manyI (got os) ≤ 100) : Fine 8 300000 (bookD os) := by
  refine (fine_tuple (n := 2) (k := 300) (m := 40000) (fun x hx => ?_) ?_).up (by decide) (by decide)
  · obtain ⟨j, _, rfl⟩ := List.mem_map.mp hx
    refine fine_tuple (n := 1) (k := 120) (m := 300) (fun y hy => ?_) (by show (120 + 1) * 2 ≤ 300; decide)
    simp only [List.mem_cons, List.not_mem_nil, or_false] at hy
    rcases hy with rfl | rfl
    · exact ⟨by decide +kernel, by decide +kernel, by decide +kernel, by decide +kernel⟩
    · refine fine_tuple (n := 0) (k := 0) (m := 120) (fun y hy => ?_) (by rw [List.length_map]; omega)
      obtain ⟨o, _, rfl⟩ := List.mem_map.mp hy
      exact fine_int (mark_le _ o)
  · rw [List.length_map, List.length_range]
    omega
/-- a thing that is no count -/
structure Wrong (d : PyData) : Prop where
  c : cntD d = false
  u : unD d = d
  f : Fine 1 20 d
def wrongs (n : Int) : List PyData := [.int 0, .int 7, .int (-1), .bool true, .none, .str "3", .tuple [.int 3], .int (7 + n), .int (10 ^ 30)]
theorem wrong_all {n : Int} (h0 : 0 ≤ n) (h1 : n < 10 ^ 9) : ∀ d ∈ wrongs n, Wrong d := by
  intro d hd
  unfold wrongs at hd
  simp only [List.mem_cons, List.not_mem_nil, or_false] at hd
  rcases hd with rfl | rfl | rfl | rfl | rfl | rfl | rfl | rfl | rfl
  · exact ⟨by decide +kernel, rfl, (fine_int (by decide)).up (by decide) (by decide)⟩
  · exact ⟨by decide +kernel, rfl, (fine_int (by decide)).up (by decide) (by decide)⟩
  · exact ⟨by decide +kernel, rfl, (fine_int (by decide)).up (by decide) (by decide)⟩
  · exact ⟨rfl, rfl, (fine_bool true).up (by decide) (by decide)⟩
  · exact ⟨rfl, rfl, fine_none.up (by decide) (by decide)⟩
  · exact ⟨rfl, rfl, ⟨by decide +kernel, by decide +kernel, by decide +kernel, by decide +kernel⟩⟩
  · exact ⟨rfl, rfl, ⟨by decide +kernel, by decide +kernel, by decide +kernel, by decide +kernel⟩⟩
  · refine ⟨?_, rfl, (fine_int (by omega)).up (by decide) (by decide)⟩
    show (decide ((1 : Int) ≤ 7 + n) && decide (7 + n ≤ 6)) = false
    rw [decide_eq_false (show ¬ 7 + n ≤ 6 by omega), Bool.and_false]
  · exact ⟨by decide +kernel, rfl, fine_big.up (by decide) (by decide)⟩
theorem fine_three {d : PyData} (h : Fine 1 20 d) : Fine 8 300000 (.tuple [d, d, d]) :=
  (fine_tuple (m := 100) (fun x hx => by
    simp only [List.mem_cons, List.not_mem_nil, or_false] at hx
    rcases hx with rfl | rfl | rfl <;> exact h) (by show (20 + 1) * 3 ≤ 100; decide)).up (by decide) (by decide)
theorem fine_one {i : Int} (h : i.natAbs < 10 ^ 12) : Fine 8 300000 (.list [.int i]) :=
  (fine_list (n := 0) (k := 0) (m := 10) (fun x hx => by
    rw [List.mem_singleton.mp hx]
    exact fine_int h) (by show (0 + 1) * 1 ≤ 10; decide)).up (by decide) (by decide)
theorem wrong_three {d : PyData} (W : Wrong d) (t : PyData → PyData) : orBad d (.list [t d]) = d := by
  unfold orBad
  rw [W.c, if_neg Bool.false_ne_true]
  exact W.u
end Hd
set_option Elab.async false
set_option linter.all false
set_option maxRecDepth 100000
set_option maxHeartbeats 1000000
namespace Hd
open PySem PySem.Spec PyProof.Rows L2 Gk GenW
/-- amid the steps: the hand stands -/
def PvStep (sa a c : Addr) (n : Nat) (v3 v4 : V) : L2.St → Hp → Prop := fun σ H1 => ∃ x5 x6 x7 x8 x9 x10 x11 x12 x13 x14 x15 x16 : Option V,
  σ = [some (.ref sa), some (.ref a), some (.int n), some v3, some v4, x5, x6, x7, x8, x9, x10, x11, x12, x13, x14, x15, x16] ∧ HandAt H1 a c
theorem ne_self {s : Str} : (!decide (V.str s = V.str s)) = false := by simp
/-! ### the rest of a step, behind the drawing of a grouping -/
/-- odd = [.., -1, True, None, '0', (0,), 6][..] -/
def tR1 (K : PySem.W.Frag) : TS :=
  tAsg (tOp (rIxL K) (tLst (tCons (tOp (rI0 fun i j => V.int (i + j)) (tCall (spMany K) [] E0 (tCons (tOp rCat (tLst (tCons (tC (.int 0)) tNil)) (tLc (iList K (tVar 10)) (gName 8) (tTest (tOp tNo (tVar 8) (tC .non))) (tVar 8) [8])) tNil)) (tC (.int 1)))
    (tCons (tUn (rU fun i => .int (-i)) (tC (.int 1))) (tCons (tC (.bl true)) (tCons (tC .non) (tCons (tC (.str "0")) (tCons (tTup (tCons (tC (.int 0)) tNil)) (tCons (tC (.int 6)) tNil))))))))
    (tCall spTake [] E0 (tCons (tVar 1) (tCons (tC (.int 7)) tNil)))) (gName 12)
/-- some = .. -/
def tR2 (K : PySem.W.Frag) : TS :=
  tAsg (tIf (fun σ H Q => tCall spTake [] E0 (tCons (tVar 1) (tCons (tC (.int 2)) tNil)) σ H fun x H' => ∃ k, TruV K x H' k ∧ Q k H')
    (tCall (spSpoiled K) [] E0 (tCons (tVar 1) (tCons (tVar 10) (tCons (tVar 12) tNil)))) (tCall (spRow K) [] E0 (tCons (tVar 1) (tCons (tVar 10) tNil)))) (gName 13)
def tR3 (K : PySem.W.Frag) : TS := tAsg (tCB (rRepF K) (tCons (tVar 13) tNil)) (gName 14)
def tR4 (K : PySem.W.Frag) : TS :=
  tFor (iList K (tLst (tCons (tC .non) (tCons (tC (.bl false)) (tCons (tC (.bl true)) tNil))))) (gName 15)
    (tIfS (tOr (tTest (tOp rNe (tCB (rRepF K) (tCons (tCall (spChecked K) [] E0 (tCons (tVar 2) (tCons (tVar 13) (tCons (tVar 15) tNil)))) tNil))
      (tCB (rRepF K) (tCons (tCall (spDue K) [] E0 (tCons (tVar 2) (tCons (tVar 13) (tCons (tOp rIsNB (tVar 15) (tC (.bl true))) tNil)))) tNil))))
      (tTest (tOp rNe (tCB (rRepF K) (tCons (tVar 13) tNil)) (tVar 14)))) (tRet (tC (.bl false))) tNext)
def tR5 (K : PySem.W.Frag) : TS := tAsg (tCall (spDue K) [] E0 (tCons (tVar 2) (tCons (tVar 13) (tCons (tC (.bl true)) tNil)))) (gName 16)
abbrev rLenB (K : PySem.W.Frag) : List V → Hp → VK → Prop := fun xs H Q => ∃ p ys, xs = [V.ref p] ∧ (SqL K H p ys ∨ SqT K H p ys) ∧ Q (.int ys.length) H
def tR6 (K : PySem.W.Frag) : TS :=
  tIfS (tB (tCB (rIsD K) (tCons (tVar 16) (tCons (tC (.ty "tuple")) tNil))))
    (tIfS (tOr (tTest (tOp rNe (tCB (rRepF K) (tCons (tCall (spBook K) [] E0 (tCons (tVar 13) tNil)) tNil)) (tCB (rRepF K) (tCons (tCall (spBook K) [] E0 (tCons (tVar 16) tNil)) tNil))))
      (tTest (tOp rNe (tCB (rRepF K) (tCons (tCall (spGMany K) [] E0 (tCons (tVar 13) tNil)) tNil)) (tCB (rRepF K) (tCons (tCB (rLenB K) (tCons (tCall (spBook K) [] E0 (tCons (tVar 16) tNil)) tNil)) tNil)))))
      (tRet (tC (.bl false))) tNext) tNext
def tRest (K : PySem.W.Frag) : TS := tSeq (tR1 K) (tSeq (tR2 K) (tSeq (tR3 K) (tSeq (tR4 K) (tSeq (tR5 K) (tR6 K)))))
/-- what may stand in a grouping with gaps -/
structure Gap (os : List (Option Int)) : Prop where
  l : os.length ≤ 7
  v : ∀ x ∈ got os, 0 ≤ x ∧ x < 7
theorem Gap.fine {os : List (Option Int)} (h : Gap os) : ∀ e ∈ os.map oD, Fine 1 20 e := by
  intro e he
  obtain ⟨o, ho, rfl⟩ := List.mem_map.mp he
  cases o with
  | none => exact fine_none.up (by decide) (by decide)
  | some x =>
    have z := h.v x (List.mem_filterMap.mpr ⟨_, ho, rfl⟩)
    exact (fine_int (by omega)).up (by decide) (by decide)
section
variable {K : PySem.W.Frag} {D : Ends} {H : Hp} {a c G : Addr} {n : Nat} {os : List (Option Int)} {x0 x3 x4 x5 x6 x7 x8 x9 x11 x12 x13 x14 x15 x16 : Option V}
/-- [0] + [group for group in .. if group is not None] -/
theorem nums_ev {R : VK} (hG : H G = some (.lst (os.map oV))) (hl : os.length ≤ 7)
    (k : ∀ p H', Same H H' → H' p = some (.lst ((0 :: got os).map V.int)) → R (.ref p) H') :
    tOp rCat (tLst (tCons (tC (.int 0)) tNil)) (tLc (iList K (tVar 10)) (gName 8) (tTest (tOp tNo (tVar 8) (tC .non))) (tVar 8) [8]) [x0, some (.ref a), some (.int n), x3, x4, x5, x6, x7, x8, x9, some (.ref G), x11, x12, x13, x14, x15, x16] H R := by
  refine ⟨(by show 1 ≤ sizeLine; decide), fun Z hZ => ?_⟩
  have sZ := same_upd' (o := .lst [.int 0]) hZ
  refine ⟨_, rfl, G, rfl, ⟨_, SqL.of (sZ _ _ hG)⟩, ?_⟩
  refine lc_walk (Q := fun v H1 => rCat (.ref Z) v H1 R) (j := 8) (vs := [8]) (tt := tTest (tOp tNo (tVar 8) (tC .non))) (te := tVar 8) (xs := os.map oV) (Y := YAt (os.map oV)) (σ := [x0, some (.ref a), some (.int n), x3, x4, x5, x6, x7, x8, x9, some (.ref G), x11, x12, x13, x14, x15, x16])
    (fun i => (got (os.take i)).map V.int) rfl (fun i _ => by rw [List.length_map]; exact got_len os i) (by rw [List.length_map]; omega) (fun _ => rfl)
    (walk_list.mono (fun H s => SqL.of (s _ _ (sZ _ _ hG))) fun i H x H' _ _ y => y) (fun i x H' R N hi s kR kN => ?_) fun B H' s hB hd => ?_
  · rw [List.getElem?_map] at hi
    cases ho : os[i]? with
    | none => rw [ho] at hi; cases hi
    | some o =>
      rw [ho] at hi
      cases (Option.some.inj hi)
      refine ⟨_, rfl, rfl, _, rfl, ?_⟩
      cases o with
      | none =>
        refine kN H' (Same.refl H') ?_
        show (got (os.take (i + 1))).map V.int = _
        rw [got_more ho]
        simp
      | some n =>
        refine ⟨_, rfl, ?_⟩
        refine kR H' _ (Same.refl H') ?_
        show (got (os.take (i + 1))).map V.int = _
        rw [got_more ho]
        simp
        rfl
  · rw [List.length_map, List.take_length] at hd
    have l := got_len os os.length
    rw [List.take_length] at l
    refine ⟨Z, B, [.int 0], (got os).map V.int, rfl, rfl, s _ _ upd_same, hd, ?_, fun p hp => ?_⟩
    · rw [List.length_map, List.length_singleton, sizeLine_eq]
      omega
    · exact k p _ ((sZ.trans s).trans (same_upd' hp)) upd_same
theorem r1_ok (hA : HandAt H a c) (hG : H G = some (.lst (os.map oV))) (g : Gap os)
    (k : ∀ (v : V) (d : PyData) (H' : Hp), Fine 1 20 d → Dq K (delH H' a) v d → HandAt H' a c → But a H H' → D.nx [x0, some (.ref a), some (.int n), x3, x4, x5, x6, x7, x8, x9, some (.ref G), x11, some v, x13, x14, x15, x16] H') :
    tR1 K D [x0, some (.ref a), some (.int n), x3, x4, x5, x6, x7, x8, x9, some (.ref G), x11, x12, x13, x14, x15, x16] H := by
  refine nums_ev (R := fun u H1 => spMany K [u] H1 (fun m H2 => tC (.int 1) [x0, some (.ref a), some (.int n), x3, x4, x5, x6, x7, x8, x9, some (.ref G), x11, x12, x13, x14, x15, x16] H2 fun y H3 => rI0 (fun i j => V.int (i + j)) m y H3 fun e H4 =>
      (tCons (tUn (rU fun i => .int (-i)) (tC (.int 1))) (tCons (tC (.bl true)) (tCons (tC .non) (tCons (tC (.str "0")) (tCons (tTup (tCons (tC (.int 0)) tNil)) (tCons (tC (.int 6)) tNil)))))) [x0, some (.ref a), some (.int n), x3, x4, x5, x6, x7, x8, x9, some (.ref G), x11, x12, x13, x14, x15, x16] H4 fun es H5 =>
        (e :: es).length ≤ sizeLine ∧ ∀ W, H5 W = none → (tCall spTake [] E0 (tCons (tVar 1) (tCons (tC (.int 7)) tNil))) [x0, some (.ref a), some (.int n), x3, x4, x5, x6, x7, x8, x9, some (.ref G), x11, x12, x13, x14, x15, x16] (upd H5 W (.lst (e :: es))) fun y H6 =>
          rIxL K (.ref W) y H6 fun v H7 => D.nx [x0, some (.ref a), some (.int n), x3, x4, x5, x6, x7, x8, x9, some (.ref G), x11, some v, x13, x14, x15, x16] H7) fun _ _ _ => False) hG g.l fun p H1 s1 hp => ?_
  have mg := many_ge (ns := 0 :: got os) fun x hx => by
    rcases List.mem_cons.mp hx with z | z
    · omega
    · exact (g.v x z).1
  have ml := many_le (ns := 0 :: got os) (B := 7) (by decide) fun x hx => by
    rcases List.mem_cons.mp hx with z | z
    · omega
    · exact (g.v x z).2
  refine ⟨p, 0 :: got os, rfl, .inl (SqL.of hp), _, _, rfl, rfl, _, rfl, (by show 1 ≤ sizeLine; decide), fun t ht => ⟨(by show 7 ≤ sizeLine; decide), fun W hW => ?_⟩⟩
  have A1 := hA.same s1
  have st := same_upd' (o := .tup [.int 0]) ht
  have A2 := A1.same st
  have sW := same_upd' (o := .lst [.int (manyI (0 :: got os) + 1), .int (-1), .bl true, .non, .str "0", .ref t, .int 6]) hW
  have A3 := A2.same sW
  have nW := A2.there hW
  have nt := A1.there ht
  refine ⟨_, rfl, a, c, 7, rfl, A3, by decide, by decide, fun m H6 m0 m7 A6 B6 => ?_⟩
  have hW6 : H6 W = some (.lst [.int (manyI (0 :: got os) + 1), .int (-1), .bl true, .non, .str "0", .ref t, .int 6]) := B6 W _ nW upd_same
  have ht6 : H6 t = some (.tup [.int 0]) := B6 t _ nt (sW _ _ upd_same)
  have BB : But a H H6 := fun b o hb z => B6 b o hb (sW b o (st b o (s1 b o z)))
  have go : ∀ (v : V) (d : PyData), ([.int (manyI (0 :: got os) + 1), .int (-1), .bl true, .non, .str "0", .ref t, .int 6] : List V)[m.toNat]? = some v → Fine 1 20 d → Dq K (delH H6 a) v d →
      rIxL K (.ref W) (.int m) H6 fun v H7 => D.nx [x0, some (.ref a), some (.int n), x3, x4, x5, x6, x7, x8, x9, some (.ref G), x11, some v, x13, x14, x15, x16] H7 := fun v d hv f hd =>
    ⟨W, _, m, v, rfl, rfl, SqL.of hW6, at_item m0 hv, k v d H6 f hd A6 BB⟩
  have c7 : m = 0 ∨ m = 1 ∨ m = 2 ∨ m = 3 ∨ m = 4 ∨ m = 5 ∨ m = 6 := by omega
  rcases c7 with e | e | e | e | e | e | e
  · subst e
    exact go _ (.int (manyI (0 :: got os) + 1)) rfl ((fine_int (by omega)).up (by decide) (by decide)) (.int _)
  · subst e
    exact go _ (.int (-1)) rfl ((fine_int (by decide)).up (by decide) (by decide)) (.int _)
  · subst e
    exact go _ (.bool true) rfl ((fine_bool true).up (by decide) (by decide)) (.bl _)
  · subst e
    exact go _ .none rfl (fine_none.up (by decide) (by decide)) .non
  · subst e
    exact go _ (.str "0") rfl ⟨by decide +kernel, by decide +kernel, by decide +kernel, by decide +kernel⟩ (.str _)
  · subst e
    exact go _ (.tuple [.int 0]) rfl ⟨by decide +kernel, by decide +kernel, by decide +kernel, by decide +kernel⟩ (.tup (SqT.of (del_at ht6 nt)) (.cons (.int 0) .nil))
  · subst e
    exact go _ (.int 6) rfl ((fine_int (by decide)).up (by decide) (by decide)) (.int _)
theorem r2_ok {v12 : V} {od : PyData} (hA : HandAt H a c) (hG : H G = some (.lst (os.map oV))) (nG : G ≠ a) (g : Gap os) (fo : Fine 1 20 od) (ho : Dq K (delH H a) v12 od)
    (k : ∀ (v : V) (d : PyData) (H' : Hp), Good d → Dq K (delH H' a) v d → HandAt H' a c → D.nx [x0, some (.ref a), some (.int n), x3, x4, x5, x6, x7, x8, x9, some (.ref G), x11, some v12, some v, x14, x15, x16] H') :
    tR2 K D [x0, some (.ref a), some (.int n), x3, x4, x5, x6, x7, x8, x9, some (.ref G), x11, some v12, x13, x14, x15, x16] H := by
  have l := g.l
  refine ⟨_, rfl, a, c, 2, rfl, hA, by decide, by decide, fun m H1 m0 m2 A1 B1 => ⟨m != 0, rfl, ?_⟩⟩
  have hG1 := B1 G _ nG hG
  have ho1 := dh_but B1 ho
  refine ite2 (fun _ => ?_) (fun _ => ?_)
  · refine ⟨_, rfl, _, rfl, _, rfl, a, c, G, os.map oV, os.map oD, v12, od, rfl, A1, .inl (SqL.of (del_at hG1 nG)), oD_dq os, ho1, by rw [List.length_map]; omega, fun v' d' H2 sp hd A2 B2 => ?_⟩
    exact k v' d' H2 (good_spoilt (by rw [List.length_map]; omega) g.fine fo sp) hd A2
  · refine ⟨_, rfl, _, rfl, a, c, .ref G, .list (os.map oD), os.map oD, rfl, A1, .lst (SqL.of (del_at hG1 nG)) (oD_dq os), .inl rfl, fun v' d' H2 hd' hd A2 B2 => ?_⟩
    refine k v' d' H2 ?_ hd A2
    rcases hd' with rfl | rfl
    · exact good_list (by rw [List.length_map]; omega) g.fine
    · exact good_tuple (by rw [List.length_map]; omega) g.fine
theorem r3_ok {v : V} {d : PyData} (G1 : Good d) (hd : Dq K H v d)
    (k : D.nx [x0, some (.ref a), some (.int n), x3, x4, x5, x6, x7, x8, x9, some (.ref G), x11, x12, some v, some (.str d.shown), x15, x16] H) :
    tR3 K D [x0, some (.ref a), some (.int n), x3, x4, x5, x6, x7, x8, x9, some (.ref G), x11, x12, some v, x14, x15, x16] H :=
  ⟨_, rfl, v, d, rfl, hd, G1.f.up (by decide) (by decide), k⟩
theorem r4_ok {v : V} {d : PyData} (n6 : n ≤ 6) (G1 : Good d) (hd : Dq K H v d)
    (k : ∀ x15 H', Same H H' → D.nx [x0, some (.ref a), some (.int n), x3, x4, x5, x6, x7, x8, x9, some (.ref G), x11, x12, some v, some (.str d.shown), x15, x16] H') :
    tR4 K D [x0, some (.ref a), some (.int n), x3, x4, x5, x6, x7, x8, x9, some (.ref G), x11, x12, some v, some (.str d.shown), x15, x16] H := by
  refine ⟨(by show 3 ≤ sizeLine; decide), fun W hW => ⟨W, rfl, ⟨_, SqL.of upd_same⟩, for_list (xs := [.non, .bl false, .bl true])
    (fun i σ H' => ∃ x15, σ = [x0, some (.ref a), some (.int n), x3, x4, x5, x6, x7, x8, x9, some (.ref G), x11, x12, some v, some (.str d.shown), x15, x16] ∧ Same (upd H W (.lst [.non, .bl false, .bl true])) H')
    ⟨x15, rfl, Same.refl _⟩ (fun i σ H' _ ⟨_, _, s⟩ => SqL.of (s _ _ upd_same)) ?_ ?_⟩⟩
  · rintro i y σ H' hy ⟨y15, rfl, sw⟩
    obtain ⟨og, rfl⟩ : ∃ og : Option Bool, y = oB og := by
      have z := List.mem_of_getElem? hy
      simp only [List.mem_cons, List.not_mem_nil, or_false] at z
      rcases z with rfl | rfl | rfl
      · exact ⟨none, rfl⟩
      · exact ⟨some false, rfl⟩
      · exact ⟨some true, rfl⟩
    have s0 := (same_upd' (o := .lst [.non, .bl false, .bl true]) hW).trans sw
    have e : chkD n (og.getD false) d = chkD n (decide (og = some true)) d := by
      cases og with
      | none => rfl
      | some b => cases b <;> rfl
    have fc : Fine 8 300000 (chkD n (decide (og = some true)) d) := fine_chk (by omega) G1
    refine ⟨_, rfl, _, rfl, _, rfl, n, v, d, og, rfl, dq_same s0 _ _ hd, fun v1 H1 s1 h1 => ?_⟩
    rw [e] at h1
    refine ⟨v1, _, rfl, h1, fc, _, rfl, _, rfl, _, rfl, og, true, ?_, rfl, n, v, d, decide (og = some true), rfl, dq_same (s0.trans s1) _ _ hd, Nat.le_trans G1.l (by decide), fun v2 H2 s2 h2 => ?_⟩
    · cases og <;> rfl
    refine ⟨v2, _, rfl, h2, fc, rfl, _, rfl, ?_⟩
    rw [ne_self]
    refine Eq.mpr (if_neg (by decide)) ?_
    have s3 := (s0.trans s1).trans s2
    refine ⟨_, rfl, v, d, rfl, dq_same s3 _ _ hd, G1.f.up (by decide) (by decide), _, rfl, rfl, _, rfl, ?_⟩
    rw [ne_self]
    refine Eq.mpr (if_neg (by decide)) ?_
    exact ⟨some (oB og), rfl, (sw.trans s1).trans s2⟩
  · rintro σ H' ⟨y15, rfl, sw⟩
    exact k y15 H' ((same_upd' hW).trans sw)
theorem r5_ok {v : V} {d : PyData} {x14 : Option V} (G1 : Good d) (hd : Dq K H v d)
    (k : ∀ u H', Same H H' → Dq K H' u (chkD n true d) → D.nx [x0, some (.ref a), some (.int n), x3, x4, x5, x6, x7, x8, x9, some (.ref G), x11, x12, some v, x14, x15, some u] H') :
    tR5 K D [x0, some (.ref a), some (.int n), x3, x4, x5, x6, x7, x8, x9, some (.ref G), x11, x12, some v, x14, x15, x16] H :=
  ⟨_, rfl, _, rfl, n, v, d, true, rfl, hd, Nat.le_trans G1.l (by decide), fun u H' s h => k u H' s h⟩
theorem r6_ok {v u : V} {d : PyData} {x14 : Option V} (G1 : Good d) (hd : Dq K H v d) (hu : Dq K H u (chkD n true d))
    (k : ∀ H', Same H H' → D.nx [x0, some (.ref a), some (.int n), x3, x4, x5, x6, x7, x8, x9, some (.ref G), x11, x12, some v, x14, x15, some u] H') :
    tR6 K D [x0, some (.ref a), some (.int n), x3, x4, x5, x6, x7, x8, x9, some (.ref G), x11, x12, some v, x14, x15, some u] H := by
  refine ⟨_, rfl, u, _, "tuple", rfl, rfl, hu, _, rfl, ?_⟩
  cases e : badD n true d with
  | some i =>
    have ec : chkD n true d = .list [.int i] := by unfold chkD; rw [e]
    rw [ec]
    refine ite2 (fun z => absurd z (by show ¬ isT "tuple" "list" = true; decide +kernel)) (fun _ => ?_)
    exact k H (Same.refl H)
  | none =>
    have ec : chkD n true d = .tuple (itemsD d) := by unfold chkD; rw [e]
    rw [ec] at hu ⊢
    refine ite2 (fun _ => ?_) (fun z => absurd (show isT "tuple" "tuple" = true by decide +kernel) z)
    have sq : seqD d = true := by
      cases z : seqD d with
      | true => rfl
      | false =>
        unfold badD at e
        rw [z] at e
        cases e
    have mi : misD true (-1) 0 (itemsD d) = none := by
      unfold badD at e
      rw [sq, if_pos rfl] at e
      cases z : misD true (-1) 0 (itemsD d) with
      | none => rfl
      | some j => rw [z] at e; cases e
    obtain ⟨os, eo, ho⟩ := mis_none _ _ _ (by decide) mi
    obtain ⟨b, xs, ds, rfl, hs, hx, ht⟩ := seq_v hd sq
    have ei : itemsD d = ds := by
      rcases ht with ⟨rfl, _⟩ | ⟨rfl, _⟩ <;> rfl
    have ll := G1.l
    rw [ei] at eo hu ll
    subst eo
    have ex := oD_v hx
    subst ex
    rw [List.length_map] at ll
    have m0 := many_ge fun x hx => (ho x hx).1
    have m9 := many_le (ns := got os) (B := 100) (by decide) fun x hx => by
      have z := (ho x hx).2
      rw [ei, List.length_map] at z
      omega
    obtain ⟨b2, rfl, hs2⟩ : ∃ b2, u = .ref b2 ∧ SqT K H b2 (os.map oV) := by
      cases hu with
      | tup z1 z2 =>
        rw [oD_v z2] at z1
        exact ⟨_, rfl, z1⟩
    have fb := fine_book ll m9
    refine ⟨_, rfl, b, os, rfl, hs, by omega, m0, m9, fun v5 H5 s5 h5 => ⟨v5, _, rfl, h5, fb, _, rfl, b2, os, rfl, .inr (sqT_same s5 hs2), by omega, m0, m9, fun v6 H6 s6 h6 => ⟨v6, _, rfl, h6, fb, rfl, _, rfl, ?_⟩⟩⟩
    rw [ne_self]
    refine Eq.mpr (if_neg (by decide)) ?_
    have s56 := s5.trans s6
    have fi : Fine 8 300000 (.int (manyI (got os))) := (fine_int (by omega)).up (by decide) (by decide)
    refine ⟨_, rfl, b, os, rfl, hs.same s56, by omega, fun H7 s7 => ⟨_, .int (manyI (got os)), rfl, .int _, fi, _, rfl, b2, os, rfl, .inr (sqT_same (s56.trans s7) hs2), by omega, m0, m9, fun v8 H8 s8 h8 => ?_⟩⟩
    obtain ⟨p, ys, rfl, hy, ly⟩ : ∃ p ys, v8 = .ref p ∧ SqT K H8 p ys ∧ (ys.length : Int) = manyI (got os) := by
      cases h8 with
      | tup z1 z2 =>
        refine ⟨_, _, rfl, z1, ?_⟩
        rw [z2.length, List.length_map, List.length_range]
        omega
    refine ⟨p, ys, rfl, .inr hy, ?_⟩
    rw [ly]
    refine ⟨_, .int (manyI (got os)), rfl, .int _, fi, rfl, _, rfl, ?_⟩
    rw [ne_self]
    refine Eq.mpr (if_neg (by decide)) ?_
    exact k H8 ((s56.trans s7).trans s8)
theorem rest_ok {sa : Addr} {v3 v4 : V} (n6 : n ≤ 6) (hA : HandAt H a c) (hG : H G = some (.lst (os.map oV))) (nG : G ≠ a) (g : Gap os) (k : ∀ σ H', PvStep sa a c n v3 v4 σ H' → D.nx σ H') :
    tRest K D [some (.ref sa), some (.ref a), some (.int n), some v3, some v4, x5, x6, x7, x8, x9, some (.ref G), x11, x12, x13, x14, x15, x16] H := by
  refine r1_ok hA hG g fun v12 od H1 fo ho A1 B1 => ?_
  refine r2_ok A1 (B1 G _ nG hG) nG g fo ho fun v d H2 G1 hd A2 => ?_
  have hd2 := dh_full hd
  refine r3_ok G1 hd2 ?_
  refine r4_ok n6 G1 hd2 fun y15 H3 s3 => ?_
  have hd3 := dq_same s3 _ _ hd2
  refine r5_ok G1 hd3 fun u H4 s4 hu => ?_
  refine r6_ok G1 (dq_same s4 _ _ hd3) hu fun H5 s5 => ?_
  exact k _ _ ⟨_, _, _, _, _, _, _, _, _, _, _, _, rfl, ((A2.same s3).same s4).same s5⟩
end
end Hd
set_option Elab.async false
set_option linter.all false
set_option maxRecDepth 100000
set_option maxHeartbeats 1000000
namespace Hd
open PySem PySem.Spec PyProof.Rows L2 Gk GenW
/-- a def of the text as it stands behind the top -/
def At (K : PySem.W.Frag) (mg : Str → Option Value) (x : Str) (i : Nat) : Prop := ∃ f fd, Fun K x x (topS i) f fd ∧ mg x = some (.ref f)
def AtD (K : PySem.W.Frag) (mg : Str → Option Value) (x : Str) (i : Nat) (dvs : List V) : Prop := ∃ f fd, FnD K x i dvs f fd ∧ mg x = some (.ref f)
structure TL (K : PySem.W.Frag) (mg : Str → Option Value) : Prop where
  td : TD mg
  sy : SysK K
  eG : ∃ S C, E1 K mg S C "BadGrouping" "index"
  eC : ∃ S C, E1 K mg S C "BadCount" "count"
  isq : At K mg "is_sequence" 5
  who : AtD K mg "is_whole" 6 [.non, .non]
  uns : At K mg "unshared" 7
  mis : AtD K mg "misnumbered_at" 8 [.bl false]
  cgr : AtD K mg "check_grouping" 10 [.bl false]
  gmy : At K mg "groups_many" 11
  cct : At K mg "check_count" 12
  agr : At K mg "all_groupings" 13
  cog : At K mg "count_groupings" 14
  bko : At K mg "book_of" 15
  han : At K mg "_law_hand" 17
  mix : At K mg "_law_mixed" 18
  tak : At K mg "_law_take" 19
  man : At K mg "_law_many" 20
  gro : At K mg "_law_grouping" 21
  rid : At K mg "_law_rid" 22
  seq : At K mg "_law_seq" 23
  int : At K mg "_law_int" 24
  wit : At K mg "_law_within" 25
  row : At K mg "_law_row" 26
  spo : At K mg "_law_spoiled" 27
  tal : At K mg "_law_all" 28
  tco : At K mg "_law_counted" 29
  tct : At K mg "_law_count" 30
  tch : At K mg "_law_checked" 31
  due : At K mg "_law_checked_due" 32
  bdu : At K mg "_law_book_due" 33
abbrev nLaw : List Str := ["_law_script", "_law_hand_here", "_law_count_here", "_law_told", "_law_rows", "_law_step", "_law_longer", "_law_row_here", "_law_group", "_law_wrong", "_law_grouping_here", "_law_gapped", "_law_odd", "_law_some", "_law_kept", "_law_gaps", "_law_due"]
theorem sc34 : FnScope nLaw ["_law_script"] (defScope (topS 34)) := ⟨rfl, rfl, rfl, by decide +kernel, rfl, by decide +kernel, by decide +kernel⟩
def spLaw (K : PySem.W.Frag) : Sp := fun vs H Q _ => ∃ (a : Addr) (ns : List Int), vs = [.ref a] ∧ SqL K H a (ns.map V.int) ∧ ns.length ≤ 63 ∧ ∀ H', Q (.bl true) H'
/-- behind i steps: the rows at G -/
def PvR (K : PySem.W.Frag) (H0 : Hp) (sa a : Addr) (n : Nat) (tv : V) (i : Nat) : L2.St → Hp → Prop := fun σ H1 => ∃ (x5 x6 x7 x8 : Option V) (G : Addr) (refs : List V),
  σ = [some (.ref sa), some (.ref a), some (.int n), some tv, some (.ref G), x5, x6, x7, x8, none, none, none, none, none, none, none, none] ∧ Same H0 H1 ∧ H1 G = some (.lst refs) ∧ DqAll K H1 refs ((rows i).map tupI)
/-- behind j rows: D the longer ones so far -/
def PvS (K : PySem.W.Frag) (H1 : Hp) (gs : List (List Int)) (D : Addr) (s0 : L2.St) (j : Nat) : L2.St → Hp → Prop := fun σ H2 => ∃ (x7 x8 : Option V) (acc : List V),
  σ = (s0.set 7 x7).set 8 x8 ∧ Same H1 H2 ∧ H2 D = some (.lst acc) ∧ acc.length ≤ 7 * j ∧ DqAll K (delH H2 D) acc ((grow (gs.take j)).map tupI)
def PvT (K : PySem.W.Frag) (H1 : Hp) (gs : List (List Int)) (g : List Int) (D kt : Addr) (s0 : L2.St) (j k : Nat) : L2.St → Hp → Prop := fun σ H3 => ∃ (x8 : Option V) (acc : List V),
  σ = (s0.set 7 (some (.ref kt))).set 8 x8 ∧ Same H1 H3 ∧ H3 D = some (.lst acc) ∧ acc.length ≤ 7 * j + k ∧ DqAll K (delH H3 D) acc ((grow (gs.take j) ++ (List.range k).map fun (j : Nat) => g ++ [(j : Int)]).map tupI)
theorem cut_map (os : List (Option Int)) (n : Nat) : ∃ ps : List (Option Int), cutV (os.map oV) none (some (n : Int)) = ps.map oV ∧ ps.length ≤ n ∧ ∀ x ∈ got ps, x ∈ got os := by
  refine ⟨(os.drop (HT.sIx os.length 0 none)).take (HT.sIx os.length os.length (some (n : Int)) - HT.sIx os.length 0 none), ?_, ?_, fun x hx => ?_⟩
  · unfold cutV
    rw [List.length_map, List.map_take, List.map_drop]
  · rw [List.length_take]
    refine Nat.le_trans (Nat.min_le_left _ _) (Nat.le_trans (Nat.sub_le _ _) ?_)
    simp only [HT.sIx]
    split <;> omega
  · obtain ⟨o, h1, h2⟩ := List.mem_filterMap.mp hx
    exact List.mem_filterMap.mpr ⟨o, List.mem_of_mem_drop (List.mem_of_mem_take h1), h2⟩
section
variable {P : Program} {w : World} {K : PySem.W.Frag} {mg : Str → Option Value} {base : Heap}
theorem ok_law {f : Addr} {fd : FuncData} (F : Fun K "law" "law" (topS 34) f fd) (L : TL K mg) : GOk P w K mg base CX0 10 f fd ["_law_script"] (spLaw K) := by
  have T := L.td
  obtain ⟨S1, C1, eG⟩ := L.eG
  obtain ⟨S2, C2, eC⟩ := L.eC
  obtain ⟨_, _, Fisq, gisq⟩ := L.isq
  obtain ⟨_, _, Fwho, gwho⟩ := L.who
  obtain ⟨_, _, Funs, guns⟩ := L.uns
  obtain ⟨_, _, Fmis, gmis⟩ := L.mis
  obtain ⟨_, _, Fcgr, gcgr⟩ := L.cgr
  obtain ⟨_, _, Fgmy, ggmy⟩ := L.gmy
  obtain ⟨_, _, Fcct, gcct⟩ := L.cct
  obtain ⟨_, _, Fagr, gagr⟩ := L.agr
  obtain ⟨_, _, Fcog, gcog⟩ := L.cog
  obtain ⟨_, _, Fbko, gbko⟩ := L.bko
  obtain ⟨_, _, Fhan, ghan⟩ := L.han
  obtain ⟨_, _, Fmix, gmix⟩ := L.mix
  obtain ⟨_, _, Ftak, gtak⟩ := L.tak
  obtain ⟨_, _, Fman, gman⟩ := L.man
  obtain ⟨_, _, Fgro, ggro⟩ := L.gro
  obtain ⟨_, _, Frid, grid⟩ := L.rid
  obtain ⟨_, _, Fseq, gseq⟩ := L.seq
  obtain ⟨_, _, Fint, gint⟩ := L.int
  obtain ⟨_, _, Fwit, gwit⟩ := L.wit
  obtain ⟨_, _, Frow, grow_⟩ := L.row
  obtain ⟨_, _, Fspo, gspo⟩ := L.spo
  obtain ⟨_, _, Ftal, gtal⟩ := L.tal
  obtain ⟨_, _, Ftco, gtco⟩ := L.tco
  obtain ⟨_, _, Ftct, gtct⟩ := L.tct
  obtain ⟨_, _, Ftch, gtch⟩ := L.tch
  obtain ⟨_, _, Fdue, gdue⟩ := L.due
  obtain ⟨_, _, Fbdu, gbdu⟩ := L.bdu
  have Ghan := ok_hand (P := P) (w := w) (base := base) Fhan T.toTB
  have Gtak := ok_take (P := P) (w := w) (base := base) Ftak T.toTB Fmix gmix
  have Gman := ok_many (P := P) (w := w) (base := base) Fman T
  have Ggro := ok_grouping (P := P) (w := w) (base := base) Fgro T Ftak gtak Fmix gmix Fman gman
  have Grow := ok_row (P := P) (w := w) (base := base) Frow T Ftak gtak Fmix gmix
  have Gspo := ok_spoiled (P := P) (w := w) (base := base) Fspo T Ftak gtak Fmix gmix Frid grid
  have Gagr := ok_all (P := P) (w := w) (base := base) Fagr T Fcct gcct Fwho gwho Funs guns Fgmy ggmy eC
  have Gcog := ok_count Fcog T Fagr gagr Gagr eC
  have Gcct := ok_check (P := P) (w := w) (base := base) Fcct T Fwho gwho Funs guns eC
  have Gtal := ok_tAll Ftal T Fagr gagr Gagr eC
  have Gtco := ok_tCounted Ftco T Fcog gcog Gcog eC
  have Gtct := ok_tCount Ftct T Fcct gcct Gcct eC
  have Gcgr := ok_cg (P := P) (w := w) (base := base) Fcgr T Fisq gisq Fmis gmis Fwho gwho eG
  have Gtch := ok_tChecked Ftch T Fcgr gcgr Gcgr eG
  have Gdue := ok_due (P := P) (w := w) (base := base) Fdue T Fseq gseq Fwit gwit Fint gint
  have Gbko := ok_book (P := P) (w := w) (base := base) Fbko T Fgmy ggmy
  have Gbdu := ok_bookDue (P := P) (w := w) (base := base) Fbdu T Fman gman
  have Ggmy := ok_gmany (P := P) (w := w) (base := base) Fgmy T
  have bhan := Fhan.binds (ps := ["_law_script"]) fun _ _ _ _ _ _ us hl => match us, hl with | [_], _ => rfl
  have btak := Ftak.binds (ps := ["_law_hand_here", "_law_many_here"]) fun _ _ _ _ _ _ us hl => match us, hl with | [_, _], _ => rfl
  have bman := Fman.binds (ps := ["_law_letters"]) fun _ _ _ _ _ _ us hl => match us, hl with | [_], _ => rfl
  have bgro := Fgro.binds (ps := ["_law_hand_here", "_law_many_here"]) fun _ _ _ _ _ _ us hl => match us, hl with | [_, _], _ => rfl
  have brow := Frow.binds (ps := ["_law_hand_here", "_law_items"]) fun _ _ _ _ _ _ us hl => match us, hl with | [_, _], _ => rfl
  have bspo := Fspo.binds (ps := ["_law_hand_here", "_law_things", "_law_odd"]) fun _ _ _ _ _ _ us hl => match us, hl with | [_, _, _], _ => rfl
  have btal := Ftal.binds (ps := ["_law_count_here"]) fun _ _ _ _ _ _ us hl => match us, hl with | [_], _ => rfl
  have btco := Ftco.binds (ps := ["_law_count_here"]) fun _ _ _ _ _ _ us hl => match us, hl with | [_], _ => rfl
  have btct := Ftct.binds (ps := ["_law_count_here"]) fun _ _ _ _ _ _ us hl => match us, hl with | [_], _ => rfl
  have btch := Ftch.binds (ps := ["_law_count_here", "_law_grouping_here", "_law_gaps"]) fun _ _ _ _ _ _ us hl => match us, hl with | [_, _, _], _ => rfl
  have bdue := Fdue.binds (ps := ["_law_count_here", "_law_grouping_here", "_law_gaps"]) fun _ _ _ _ _ _ us hl => match us, hl with | [_, _, _], _ => rfl
  have bbko := Fbko.binds (ps := ["grouping"]) fun _ _ _ _ _ _ us hl => match us, hl with | [_], _ => rfl
  have bbdu := Fbdu.binds (ps := ["_law_grouping_here"]) fun _ _ _ _ _ _ us hl => match us, hl with | [_], _ => rfl
  have bgmy := Fgmy.binds (ps := ["grouping"]) fun _ _ _ _ _ _ us hl => match us, hl with | [_], _ => rfl
  refine g_body (fun_ex F) sc34 (fun vs H Q E h => ?_) (fun cdv A outer s H vs Q E qa rm h => ?_)
  · obtain ⟨sa, ns, rfl, _⟩ := h
    rfl
  · obtain ⟨sa, ns, rfl, hS, hl, q⟩ := h
    have r1 := rm.mono (show 1 ≤ 9 by decide)
    have r2 := rm.mono (show 2 ≤ 9 by decide)
    have r3 := rm.mono (show 3 ≤ 9 by decide)
    have r4 := rm.mono (show 4 ≤ 9 by decide)
    have r8 := rm.mono (show 8 ≤ 9 by decide)
    have hu : _ + 64 < cLine := rm.units
    have crep := fun {X : Cx} (S : SysK X.K) (q : Quiet X.A) (u : X.A.units + 64 < cLine) => call_repF S q u
    refine ⟨_, PSs.nox (pss_cons (ps_set (i := 1) sc34.nd rfl (.inl rfl) (pe_call Ghan r1 (by rfl) ghan Fhan.kp bhan .nil pass0 (pa_cons (pv 0) pa_nil)))
      (pss_cons (ps_set (i := 2) sc34.nd rfl (.inl rfl) (pe_op op_add pe_int (pe_call Gtak r2 (by rfl) gtak Ftak.kp btak .nil pass0 (pa_cons (pv 1) (pa_cons pe_int pa_nil)))))
      (pss_cons (ps_set (i := 3) sc34.nd rfl (.inl rfl) (pe_call Gtal r8 (by rfl) gtal Ftal.kp btal .nil pass0 (pa_cons (pv 2) pa_nil)))
      (pss_cons (ps_if (pt_not (pt_val (pe_callB call_isD (by rfl) T.isi (by decide +kernel) (pa_cons (pv 3) (pa_cons (pe_bltn (v := .ty "list") (by rfl) T.list (by decide +kernel) rfl) pa_nil))))) (pss_one (ps_ret pe_bl)) pss_nil)
      (pss_cons (ps_set (i := 4) sc34.nd rfl (.inl rfl) (pe_lst (pa_cons (pe_tup pa_nil) pa_nil)))
      (pss_cons (ps_for PassesOwn.never rfl (pi_range1 (by rfl) T.range (pa_cons (pv 2) pa_nil)) (pg_name (i := 5) sc34.nd rfl (.inl rfl))
        (pss_cons (ps_set (i := 6) sc34.nd rfl (.inl rfl) (pe_lst pa_nil))
        (pss_cons (ps_for PassesOwn.never rfl (pi_list (pv 4)) (pg_name (i := 7) sc34.nd rfl (.inl rfl))
          (pss_one (ps_for PassesOwn.never rfl (pi_range1 (by rfl) T.range (pa_cons (pe_op op_add (pe_call Gman r1 (by rfl) gman Fman.kp bman .nil pass0 (pa_cons (pv 7) pa_nil)) pe_int) pa_nil)) (pg_name (i := 8) sc34.nd rfl (.inl rfl))
            (pss_one (ps_expr (pe_bm PySem.F.plainAttrs_list PySem.F.slot_list_append PySem.F.type_list_append mt_append (pv 6) (pa_cons (pe_op op_catA (pv 7) (pe_tup (pa_cons (pv 8) pa_nil))) pa_nil)))))))
        (pss_one (ps_set (i := 4) sc34.nd rfl (.inl rfl) (pe_callTy call_list_of (by rfl) T.list (by decide +kernel) (pa_cons (pv 6) pa_nil)))))))
      (pss_cons (ps_if (PW.pt (pw_or (pt_cmpR op_ne (pe_callB (crep L.sy qa hu) (by rfl) T.rep (by decide +kernel) (pa_cons (pe_ix ix_list (pv 3) pe_int (fun _ _ => rfl)) pa_nil)) (pe_callB (crep L.sy qa hu) (by rfl) T.rep (by decide +kernel) (pa_cons (pv 4) pa_nil)) (nomark _))
        (pw_or (pt_cmpR op_ne (pe_callB (crep L.sy qa hu) (by rfl) T.rep (by decide +kernel) (pa_cons (pe_call Gtco rm (by rfl) gtco Ftco.kp btco .nil pass0 (pa_cons (pv 2) pa_nil)) pa_nil)) (pe_callB (crep L.sy qa hu) (by rfl) T.rep (by decide +kernel) (pa_cons (pe_lst (pa_cons (pe_callB call_len_seq (by rfl) T.len boot_len (pa_cons (pv 4) pa_nil)) pa_nil)) pa_nil)) (nomark _))
        (pw_or1 (pt_cmpR op_ne (pe_callB (crep L.sy qa hu) (by rfl) T.rep (by decide +kernel) (pa_cons (pe_call Gtct r4 (by rfl) gtct Ftct.kp btct .nil pass0 (pa_cons (pv 2) pa_nil)) pa_nil)) (pe_callB (crep L.sy qa hu) (by rfl) T.rep (by decide +kernel) (pa_cons (pe_lst (pa_cons (pv 2) pa_nil)) pa_nil)) (nomark _)))))) (pss_one (ps_ret pe_bl)) pss_nil)
      (pss_cons (ps_for PassesOwn.never rfl (pi_list (pe_lst (pa_cons pe_int (pa_cons pe_int (pa_cons (pe_un un_neg pe_int) (pa_cons pe_bl (pa_cons pe_non (pa_cons pe_str (pa_cons (pe_tup (pa_cons pe_int pa_nil))
          (pa_cons (pe_op op_add pe_int (pe_call Gtak r2 (by rfl) gtak Ftak.kp btak .nil pass0 (pa_cons (pv 1) (pa_cons (pe_op op_pow pe_int pe_int) pa_nil)))) (pa_cons (pe_op op_pow pe_int pe_int) pa_nil)))))))))) ) (pg_name (i := 9) sc34.nd rfl (.inl rfl))
        (pss_one (ps_if (pt_cmpR op_ne (pe_callB (crep L.sy qa hu) (by rfl) T.rep (by decide +kernel) (pa_cons (pe_tup (pa_cons (pe_call Gtal r8 (by rfl) gtal Ftal.kp btal .nil pass0 (pa_cons (pv 9) pa_nil)) (pa_cons (pe_call Gtco rm (by rfl) gtco Ftco.kp btco .nil pass0 (pa_cons (pv 9) pa_nil))
          (pa_cons (pe_call Gtct r4 (by rfl) gtct Ftct.kp btct .nil pass0 (pa_cons (pv 9) pa_nil)) pa_nil)))) pa_nil)) (pe_callB (crep L.sy qa hu) (by rfl) T.rep (by decide +kernel) (pa_cons (pe_tup (pa_cons (pv 9) (pa_cons (pv 9) (pa_cons (pv 9) pa_nil)))) pa_nil)) (nomark _)) (pss_one (ps_ret pe_bl)) pss_nil)))
      (pss_cons (ps_for PassesOwn.never rfl (pi_range1 (by rfl) T.range (pa_cons pe_int pa_nil)) (pg_name (i := 5) sc34.nd rfl (.inl rfl))
        (pss_cons (ps_set (i := 10) sc34.nd rfl (.inl rfl) (pe_call Ggro r3 (by rfl) ggro Fgro.kp bgro .nil pass0 (pa_cons (pv 1) (pa_cons (pv 2) pa_nil))))
        (pss_cons (ps_if (pt_truth (pe_call Gtak r2 (by rfl) gtak Ftak.kp btak .nil pass0 (pa_cons (pv 1) (pa_cons pe_int pa_nil))) (by intro _; rfl))
          (pss_cons (ps_set (i := 11) sc34.nd rfl (.inl rfl) (pe_lst pa_nil))
          (pss_cons (ps_for PassesOwn.never rfl (pi_list (pv 10)) (pg_name (i := 8) sc34.nd rfl (.inl rfl))
            (pss_cons (ps_if (pt_cmpR op_eq (pe_call Gtak r2 (by rfl) gtak Ftak.kp btak .nil pass0 (pa_cons (pv 1) (pa_cons pe_int pa_nil))) pe_int (nomark _))
              (pss_one (ps_expr (pe_bm PySem.F.plainAttrs_list PySem.F.slot_list_append PySem.F.type_list_append mt_append (pv 11) (pa_cons pe_non pa_nil)))) pss_nil)
            (pss_one (ps_expr (pe_bm PySem.F.plainAttrs_list PySem.F.slot_list_append PySem.F.type_list_append mt_append (pv 11) (pa_cons (pv 8) pa_nil))))))
          (pss_one (ps_set (i := 10) sc34.nd rfl (.inl rfl) (pe_slice sl_list (pv 11) po_none (po_some (pv 2))))))) pss_nil)
        (pss_cons (ps_set (i := 12) sc34.nd rfl (.inl rfl) (pe_ix ix_list (pe_lst (pa_cons (pe_op op_add (pe_call Gman r1 (by rfl) gman Fman.kp bman .nil pass0 (pa_cons (pe_op op_cat (pe_lst (pa_cons pe_int pa_nil))
            (pe_lc (own := [("_law_group", 8)]) (g := gName 8) (tt := tTest (tOp tNo (tVar 8) (tC .non))) (te := tVar 8) rfl sc34.nd (pi_list (pv 10)) (blkOk_by (N := nLaw) (sc := defScope (topS 34)) (by decide +kernel)) (fun _ _ _ _ _ => pg_name (i := 8) sc34.nd rfl (.inl rfl))
              (fun _ _ _ _ _ => pts_one (pt_cmpR op_notN (pv 8) pe_non (nomark _))) (fun _ _ _ _ _ => pv 8))) pa_nil)) pe_int)
          (pa_cons (pe_un un_neg pe_int) (pa_cons pe_bl (pa_cons pe_non (pa_cons pe_str (pa_cons (pe_tup (pa_cons pe_int pa_nil)) (pa_cons pe_int pa_nil)))))))) (pe_call Gtak r2 (by rfl) gtak Ftak.kp btak .nil pass0 (pa_cons (pv 1) (pa_cons pe_int pa_nil))) (fun _ _ => rfl)))
        (pss_cons (ps_set (i := 13) sc34.nd rfl (.inl rfl) (pe_ifExp (pt_truth (pe_call Gtak r2 (by rfl) gtak Ftak.kp btak .nil pass0 (pa_cons (pv 1) (pa_cons pe_int pa_nil))) (by intro _; rfl))
          (pe_call Gspo r4 (by rfl) gspo Fspo.kp bspo .nil pass0 (pa_cons (pv 1) (pa_cons (pv 10) (pa_cons (pv 12) pa_nil)))) (pe_call Grow r3 (by rfl) grow_ Frow.kp brow .nil pass0 (pa_cons (pv 1) (pa_cons (pv 10) pa_nil)))))
        (pss_cons (ps_set (i := 14) sc34.nd rfl (.inl rfl) (pe_callB (crep L.sy qa hu) (by rfl) T.rep (by decide +kernel) (pa_cons (pv 13) pa_nil)))
        (pss_cons (ps_for PassesOwn.never rfl (pi_list (pe_lst (pa_cons pe_non (pa_cons pe_bl (pa_cons pe_bl pa_nil))))) (pg_name (i := 15) sc34.nd rfl (.inl rfl))
          (pss_one (ps_if (PW.pt (pw_or (pt_cmpR op_ne (pe_callB (crep L.sy qa hu) (by rfl) T.rep (by decide +kernel) (pa_cons (pe_call Gtch r4 (by rfl) gtch Ftch.kp btch .nil pass0 (pa_cons (pv 2) (pa_cons (pv 13) (pa_cons (pv 15) pa_nil)))) pa_nil))
            (pe_callB (crep L.sy qa hu) (by rfl) T.rep (by decide +kernel) (pa_cons (pe_call Gdue r3 (by rfl) gdue Fdue.kp bdue .nil pass0 (pa_cons (pv 2) (pa_cons (pv 13) (pa_cons (pe_cmpR op_isNB (pv 15) pe_bl (nomark _)) pa_nil)))) pa_nil)) (nomark _))
            (pw_or1 (pt_cmpR op_ne (pe_callB (crep L.sy qa hu) (by rfl) T.rep (by decide +kernel) (pa_cons (pv 13) pa_nil)) (pv 14) (nomark _))))) (pss_one (ps_ret pe_bl)) pss_nil)))
        (pss_cons (ps_set (i := 16) sc34.nd rfl (.inl rfl) (pe_call Gdue r3 (by rfl) gdue Fdue.kp bdue .nil pass0 (pa_cons (pv 2) (pa_cons (pv 13) (pa_cons pe_bl pa_nil)))))
        (pss_one (ps_if (pt_val (pe_callB call_isD (by rfl) T.isi (by decide +kernel) (pa_cons (pv 16) (pa_cons (pe_bltn (v := .ty "tuple") (by rfl) T.tuple (by decide +kernel) rfl) pa_nil))))
          (pss_one (ps_if (PW.pt (pw_or (pt_cmpR op_ne (pe_callB (crep L.sy qa hu) (by rfl) T.rep (by decide +kernel) (pa_cons (pe_call Gbko r2 (by rfl) gbko Fbko.kp bbko .nil pass0 (pa_cons (pv 13) pa_nil)) pa_nil))
            (pe_callB (crep L.sy qa hu) (by rfl) T.rep (by decide +kernel) (pa_cons (pe_call Gbdu r2 (by rfl) gbdu Fbdu.kp bbdu .nil pass0 (pa_cons (pv 16) pa_nil)) pa_nil)) (nomark _))
            (pw_or1 (pt_cmpR op_ne (pe_callB (crep L.sy qa hu) (by rfl) T.rep (by decide +kernel) (pa_cons (pe_call Ggmy r1 (by rfl) ggmy Fgmy.kp bgmy .nil pass0 (pa_cons (pv 13) pa_nil)) pa_nil))
            (pe_callB (crep L.sy qa hu) (by rfl) T.rep (by decide +kernel) (pa_cons (pe_callB call_len_seq (by rfl) T.len boot_len (pa_cons (pe_call Gbdu r2 (by rfl) gbdu Fbdu.kp bbdu .nil pass0 (pa_cons (pv 16) pa_nil)) pa_nil)) pa_nil)) (nomark _))))) (pss_one (ps_ret pe_bl)) pss_nil)) pss_nil))))))))))
      (pss_one (ps_ret pe_bl))))))))))), ?_⟩
    refine ⟨_, rfl, sa, ns, rfl, hS, hl, fun H1 a c s1 na A1 => ?_⟩
    refine ⟨_, rfl, a, c, 6, rfl, A1, by decide, by decide, fun k H2 k0 k6 A2 B2 => ⟨_, _, rfl, rfl, ?_⟩⟩
    obtain ⟨n, hn, n1, n6⟩ : ∃ n : Nat, 1 + k = (n : Int) ∧ 1 ≤ n ∧ n ≤ 6 := ⟨(1 + k).toNat, by omega, by omega, by omega⟩
    show gName 2 (V.int (1 + k)) _ H2 _
    rw [hn]
    have hc : cntD (.int (n : Int)) = true := by
      show (decide ((1 : Int) ≤ n) && decide ((n : Int) ≤ 6)) = true
      rw [decide_eq_true (by omega), decide_eq_true (by omega)]
      rfl
    refine ⟨_, rfl, .int n, .int n, rfl, .int _, fun tv H3 s3 ht => ?_⟩
    have ht2 : Dq K H3 tv (.list [.list ((rows n).map tupI)]) := by
      have e : orBad (.int (n : Int)) (.list [allD (.int (n : Int))]) = .list [.list ((rows n).map tupI)] := by
        unfold orBad
        rw [if_pos hc]
        rfl
      rw [e] at ht
      exact ht
    clear ht
    obtain ⟨tl, x0, rfl, htl, hx0⟩ : ∃ tl x0, tv = .ref tl ∧ SqL K H3 tl [x0] ∧ Dq K H3 x0 (.list ((rows n).map tupI)) := by
      cases ht2 with
      | lst z1 z2 =>
        cases z2 with
        | cons z3 z4 =>
          cases z4
          exact ⟨_, _, rfl, z1, z3⟩
    refine ⟨_, rfl, .ref tl, _, "list", rfl, rfl, ht2, _, rfl, ?_⟩
    refine ite2 (fun z => absurd z (by show ¬ (!isT "list" "list") = true; decide +kernel)) (fun _ => ?_)
    refine ⟨Nat.zero_le _, fun t0 ht0 => ⟨(by show 1 ≤ sizeLine; decide), fun G0 hG0 => ?_⟩⟩
    have s4 := (same_upd' (o := .tup []) ht0).trans (same_upd' (o := .lst [.ref t0]) hG0)
    refine ⟨_, rfl, _, rfl, by omega, by omega, for_range (PvR K H3 sa a n (.ref tl)) ⟨none, none, none, none, G0, [.ref t0], rfl, s4, upd_same, .cons (.tup (.inl (.inl (same_upd' hG0 _ _ upd_same))) .nil) .nil⟩ ?_ ?_⟩
    · rintro i σ H4 hi ⟨x5, x6, x7, x8, G, refs, rfl, s5, hG, hx⟩
      have i6 : i ≤ 6 := by omega
      have lx : refs.length = (rows i).length := by rw [hx.length, List.length_map]
      have lr := rows_len i6
      refine ⟨Nat.zero_le _, fun D hD => ?_⟩
      have sD := same_upd' (o := .lst []) hD
      refine ⟨_, rfl, G, rfl, ⟨_, SqL.of (sD _ _ hG)⟩, for_list (PvS K H4 (rows i) D [some (.ref sa), some (.ref a), some (.int n), some (.ref tl), some (.ref G), some (.int (0 + (i : Int))), some (.ref D), x7, x8, none, none, none, none, none, none, none, none])
        ⟨x7, x8, [], rfl, sD, upd_same, Nat.le_refl _, .nil⟩ (fun j σ H5 _ ⟨_, _, _, _, s, _⟩ => SqL.of (s _ _ hG)) ?_ ?_⟩
      · rintro j y σ H5 hy ⟨y7, y8, acc, rfl, s6, hA, la, da⟩
        obtain ⟨d, hd, hv⟩ := hx.get hy
        rw [List.getElem?_map] at hd
        cases hg : (rows i)[j]? with
        | none => rw [hg] at hd; cases hd
        | some g =>
          rw [hg] at hd
          cases (Option.some.inj hd)
          obtain ⟨kt, rfl, hT⟩ := tup_v hv
          obtain ⟨m0, m6, l6⟩ := rows_mem i6 (List.mem_of_getElem? hg)
          refine ⟨_, rfl, kt, g, rfl, .inr (sqT_same s6 hT), _, _, rfl, rfl, _, rfl, by omega, by omega,
            for_range (PvT K H4 (rows i) g D kt [some (.ref sa), some (.ref a), some (.int n), some (.ref tl), some (.ref G), some (.int (0 + (i : Int))), some (.ref D), x7, x8, none, none, none, none, none, none, none, none] j)
              ⟨y8, acc, rfl, s6, hA, la, by rw [List.range_zero, List.map_nil, List.append_nil]; exact da⟩ ?_ ?_⟩
          · rintro k2 σ H6 hk ⟨z8, acc6, rfl, s7, hA6, la6, da6⟩
            refine ⟨_, rfl, .inl ⟨rfl, _, SqL.of hA6⟩, _, rfl, _, rfl, (by show 1 ≤ sizeLine; decide), fun t ht => ?_⟩
            have st := same_upd' (o := .tup [.int (0 + (k2 : Int))]) ht
            have e1 : g.map V.int ++ [V.int (0 + (k2 : Int))] = (g ++ [(k2 : Int)]).map V.int := by
              rw [List.map_append, Int.zero_add]
              rfl
            have jl : j < refs.length := (List.getElem?_eq_some_iff.mp hy).1
            have fin : ∀ (H7 : Hp) (p : Addr), Same H6 H7 → H7 D = some (.lst acc6) → DqAll K (delH H7 D) acc6 ((grow ((rows i).take j) ++ (List.range k2).map fun (j : Nat) => g ++ [(j : Int)]).map tupI) → H7 p = none →
                rAppend (.ref D) [.ref p] (upd H7 p (.tup (g.map V.int ++ [V.int (0 + (k2 : Int))]))) fun _ H8 => PvT K H4 (rows i) g D kt [some (.ref sa), some (.ref a), some (.int n), some (.ref tl), some (.ref G), some (.int (0 + (i : Int))), some (.ref D), x7, x8, none, none, none, none, none, none, none, none] j (k2 + 1)
                  [some (.ref sa), some (.ref a), some (.int n), some (.ref tl), some (.ref G), some (.int (0 + (i : Int))), some (.ref D), some (.ref kt), some (.int (0 + (k2 : Int))), none, none, none, none, none, none, none, none] H8 := fun H7 p s8 hA7 da7 hp => by
              have np : D ≠ p := fun z => by rw [← z, hA7] at hp; cases hp
              refine ⟨D, acc6, .ref p, rfl, rfl, by rw [upd_ne np]; exact hA7, by rw [sizeLine_eq]; omega, some (.int (0 + (k2 : Int))), acc6 ++ [.ref p], rfl, fun b o z => ?_, upd_same, by rw [List.length_append, List.length_singleton]; omega, ?_⟩
              · rw [upd_ne (ne_of_none z hD)]
                exact same_upd' hp b o (s8 b o (s7 b o z))
              · have gb := grown_by (g := g ++ [(k2 : Int)]) hA7 da7 hp
                rw [← e1] at gb
                have e2 : (grow ((rows i).take j) ++ (List.range (k2 + 1)).map fun (j : Nat) => g ++ [(j : Int)]).map tupI = (grow ((rows i).take j) ++ (List.range k2).map fun (j : Nat) => g ++ [(j : Int)]).map tupI ++ [tupI (g ++ [(k2 : Int)])] := by
                  simp [List.range_succ, List.append_assoc]
                rw [e2]
                exact gb
            refine ⟨kt, t, g.map V.int, [.int (0 + (k2 : Int))], rfl, rfl, sqT_same (s7.trans st) hT, SqT.of upd_same, ?_, fun hnil => ?_, fun _ z => (nomatch z), fun _ _ p hp => ?_⟩
            · rw [List.length_map, List.length_singleton, sizeLine_eq]
              omega
            · have f0 := fin H6 t (Same.refl _) hA6 da6 ht
              rw [hnil, List.nil_append] at f0
              exact f0
            · exact fin _ p st (st _ _ hA6) (dhA_same st da6) hp
          · rintro σ H6 ⟨z8, acc6, rfl, s7, hA6, la6, da6⟩
            refine ⟨some (.ref kt), z8, acc6, rfl, s7, hA6, by omega, ?_⟩
            rw [grow_more hg]
            exact da6
      · rintro σ H5 ⟨y7, y8, acc, rfl, s6, hA, la, da⟩
        rw [lx, List.take_length] at da
        refine ⟨_, rfl, D, acc, rfl, .inl (SqL.of hA), fun l hl => ?_⟩
        have sl := same_upd' (o := .lst acc) hl
        exact ⟨some (.int (0 + (i : Int))), some (.ref D), y7, y8, l, acc, rfl, (s5.trans s6).trans sl, upd_same, dqAll_same sl _ _ (dqAll_same del_same _ _ da)⟩
    · rintro σ H4 ⟨x5, x6, x7, x8, G, refs, rfl, s5, hG, hx⟩
      have hx2 : DqAll K H4 refs ((rows n).map tupI) := hx
      have lr : refs.length = (rows n).length := by rw [hx2.length, List.length_map]
      have ln := rows_len n6
      have fr : Fine 8 300000 (.list ((rows n).map tupI)) := (fine_rows n6).up (by decide) (by decide)
      refine ⟨_, rfl, tl, [x0], 0, x0, rfl, rfl, s5.seq htl, rfl, x0, _, rfl, dq_same s5 _ _ hx0, fr, _, rfl, .ref G, .list ((rows n).map tupI), rfl, .lst (SqL.of hG) hx2, fr, rfl, _, rfl, ?_⟩
      rw [ne_self]
      refine Eq.mpr (if_neg (by decide)) ?_
      refine ⟨_, rfl, .int n, .int n, rfl, .int _, fun v5 H5 s6 hv5 => ?_⟩
      have hv5' : Dq K H5 v5 (.list [.int ((rows n).length : Nat)]) := by
        have e : orBad (.int (n : Int)) (.list [manyD (.int (n : Int))]) = .list [.int ((rows n).length : Nat)] := by
          unfold orBad
          rw [if_pos hc]
          rfl
        rw [e] at hv5
        exact hv5
      have f5 : Fine 8 300000 (.list [.int ((rows n).length : Nat)]) := fine_one (by omega)
      refine ⟨v5, _, rfl, hv5', f5, _, rfl, G, refs, rfl, .inl (SqL.of (s6 _ _ hG)), (by show 1 ≤ sizeLine; decide), fun p5 hp5 => ?_⟩
      rw [lr]
      refine ⟨.ref p5, .list [.int ((rows n).length : Nat)], rfl, .lst (SqL.of upd_same) (.cons (.int _) .nil), f5, rfl, _, rfl, ?_⟩
      rw [ne_self]
      refine Eq.mpr (if_neg (by decide)) ?_
      refine ⟨_, rfl, .int n, .int n, rfl, .int _, fun v6 H6 s7 hv6 => ?_⟩
      have hv6' : Dq K H6 v6 (.list [.int (n : Int)]) := by
        have e : orBad (.int (n : Int)) (.list [id (.int (n : Int))]) = .list [.int (n : Int)] := by
          unfold orBad
          rw [if_pos hc]
          rfl
        rw [e] at hv6
        exact hv6
      have f6 : Fine 8 300000 (.list [.int (n : Int)]) := fine_one (by omega)
      refine ⟨v6, _, rfl, hv6', f6, _, rfl, (by show 1 ≤ sizeLine; decide), fun p6 hp6 => ?_⟩
      refine ⟨.ref p6, .list [.int (n : Int)], rfl, .lst (SqL.of upd_same) (.cons (.int _) .nil), f6, rfl, _, rfl, ?_⟩
      rw [ne_self]
      refine Eq.mpr (if_neg (by decide)) ?_
      have A7 := (((((A2.same s3).same s5).same s6).same (same_upd' (o := .lst [.int ((rows n).length : Nat)]) hp5)).same s7).same (same_upd' (o := .lst [.int (n : Int)]) hp6)
      -- no counts
      refine ⟨_, rfl, (by show 1 ≤ sizeLine; decide), fun t7 ht7 => ?_⟩
      have A8 := A7.same (same_upd' (o := .tup [.int 3]) ht7)
      refine ⟨_, rfl, _, _, rfl, rfl, ⟨by decide, by decide, by decide⟩, a, c, 10 ^ 9, rfl, A8, by decide, by decide, fun k9 H9 k90 k91 A9 B9 => ⟨_, _, rfl, rfl, _, _, rfl, rfl, ⟨by decide, by decide, by decide⟩, (by show 9 ≤ sizeLine; decide), fun W hW => ?_⟩⟩
      have ht9 : H9 t7 = some (.tup [.int 3]) := B9 t7 _ (A7.there ht7) upd_same
      have hws : DqAll K (upd H9 W (.lst [.int 0, .int 7, .int (-1), .bl true, .non, .str "3", .ref t7, .int (7 + k9), .int (10 ^ 30)])) [.int 0, .int 7, .int (-1), .bl true, .non, .str "3", .ref t7, .int (7 + k9), .int (10 ^ 30)] (wrongs k9) :=
        .cons (.int _) (.cons (.int _) (.cons (.int _) (.cons (.bl _) (.cons .non (.cons (.str _) (.cons (.tup (SqT.of (same_upd' hW _ _ ht9)) (.cons (.int 3) .nil)) (.cons (.int _) (.cons (.int _) .nil))))))))
      refine ⟨W, rfl, ⟨_, SqL.of upd_same⟩, for_list (xs := [.int 0, .int 7, .int (-1), .bl true, .non, .str "3", .ref t7, .int (7 + k9), .int (10 ^ 30)])
        (fun i σ H' => ∃ x9, σ = [some (.ref sa), some (.ref a), some (.int n), some (.ref tl), some (.ref G), x5, x6, x7, x8, x9, none, none, none, none, none, none, none] ∧ Same (upd H9 W (.lst [.int 0, .int 7, .int (-1), .bl true, .non, .str "3", .ref t7, .int (7 + k9), .int (10 ^ 30)])) H')
        ⟨none, rfl, Same.refl _⟩ (fun i σ H' _ ⟨_, _, s⟩ => SqL.of (s _ _ upd_same)) ?_ ?_⟩
      · rintro i y σ H' hy ⟨x9, rfl, sw⟩
        obtain ⟨d, hd, hv⟩ := hws.get hy
        have Wd := wrong_all k90 k91 d (List.mem_of_getElem? hd)
        have hv0 := dq_same sw _ _ hv
        refine ⟨_, rfl, y, d, rfl, hv0, fun v1 G1 t1 h1 => ⟨_, rfl, y, d, rfl, dq_same t1 _ _ hv0, fun v2 G2 t2 h2 => ⟨_, rfl, y, d, rfl, dq_same (t1.trans t2) _ _ hv0, fun v3 G3 t3 h3 => ⟨(by show 3 ≤ sizeLine; decide), fun p hp => ?_⟩⟩⟩⟩
        rw [wrong_three Wd] at h1 h2 h3
        have sp := same_upd' (o := .tup [v1, v2, v3]) hp
        refine ⟨.ref p, .tuple [d, d, d], rfl, .tup (SqT.of upd_same) (.cons (dq_same ((t2.trans t3).trans sp) _ _ h1) (.cons (dq_same (t3.trans sp) _ _ h2) (.cons (dq_same sp _ _ h3) .nil))), fine_three Wd.f,
          _, rfl, _, rfl, _, rfl, (by show 3 ≤ sizeLine; decide), fun p2 hp2 => ?_⟩
        have sp2 := same_upd' (o := .tup [y, y, y]) hp2
        have sall := (((t1.trans t2).trans t3).trans sp).trans sp2
        have hy2 := dq_same sall _ _ hv0
        refine ⟨.ref p2, .tuple [d, d, d], rfl, .tup (SqT.of upd_same) (.cons hy2 (.cons hy2 (.cons hy2 .nil))), fine_three Wd.f, rfl, _, rfl, ?_⟩
        rw [ne_self]
        refine Eq.mpr (if_neg (by decide)) ?_
        exact ⟨some y, rfl, sw.trans sall⟩
      · rintro σ H10 ⟨x9, rfl, s10⟩
        have A10 := (A9.same (same_upd' (o := .lst [.int 0, .int 7, .int (-1), .bl true, .non, .str "3", .ref t7, .int (7 + k9), .int (10 ^ 30)]) hW)).same s10
        refine ⟨_, rfl, by decide, by decide, for_range (fun _ => PvStep sa a c n (.ref tl) (.ref G)) ⟨_, _, _, _, _, _, _, _, _, _, _, _, rfl, A10⟩ ?_ ?_⟩
        · rintro i σ H11 hi6 ⟨y5, y6, y7, y8, y9, y10, y11, y12, y13, y14, y15, y16, rfl, A11⟩
          refine ⟨_, rfl, _, rfl, a, c, n, rfl, A11, by omega, by omega, fun gs D H12 gr gl hD nDa hg A12 B12 => ?_⟩
          refine ⟨_, rfl, a, c, 2, rfl, A12, by decide, by decide, fun k13 H13 k130 k131 A13 B13 => ⟨k13 != 0, rfl, ?_⟩⟩
          have hg13 := B13 D _ nDa hg
          refine ite2 (fun _ => ?_) (fun _ => ?_)
          · refine ⟨Nat.zero_le _, fun B hB => ?_⟩
            have nB := A13.there hB
            have nDB : D ≠ B := fun z => by rw [← z, hg13] at hB; cases hB
            refine ⟨_, rfl, D, rfl, ⟨_, SqL.of (same_upd' hB _ _ hg13)⟩, for_list (xs := gs.map V.int)
              (fun j σ H' => ∃ (z8 : Option V) (os : List (Option Int)), σ = [some (.ref sa), some (.ref a), some (.int n), some (.ref tl), some (.ref G), some (.int (0 + (i : Int))), y6, y7, z8, y9, some (.ref D), some (.ref B), y12, y13, y14, y15, y16] ∧ H' D = some (.lst (gs.map V.int)) ∧
                H' B = some (.lst (os.map oV)) ∧ os.length ≤ 2 * j ∧ (∀ x ∈ got os, x ∈ gs) ∧ HandAt H' a c)
              ⟨y8, [], rfl, same_upd' hB _ _ hg13, upd_same, Nat.le_refl _, (fun x hx => nomatch hx), A13.same (same_upd' hB)⟩ (fun j σ H' _ ⟨_, _, _, h, _⟩ => SqL.of h) ?_ ?_⟩
            · rintro j y σ H14 hy ⟨z8, os, rfl, hD14, hB14, lo, hos, A14⟩
              obtain ⟨e0, he0, rfl⟩ := List.mem_map.mp (List.mem_of_getElem? hy)
              have jl : j < gs.length := by
                have z := (List.getElem?_eq_some_iff.mp hy).1
                rw [List.length_map] at z
                exact z
              refine ⟨_, rfl, a, c, 4, rfl, A14, by decide, by decide, fun m15 H15 _ _ A15 B15 => ?_⟩
              have hB15 := B15 B _ nB hB14
              have hD15 := B15 D _ nDa hD14
              refine ⟨rfl, _, rfl, ?_⟩
              refine ite2 (fun _ => ?_) (fun _ => ?_)
              · refine ⟨_, rfl, .inl ⟨rfl, _, SqL.of hB15⟩, B, os.map oV, .non, rfl, rfl, hB15, by rw [List.length_map, sizeLine_eq]; omega, ?_⟩
                refine ⟨_, rfl, .inl ⟨rfl, _, SqL.of upd_same⟩, _, rfl, B, os.map oV ++ [.non], .int e0, rfl, rfl, upd_same, by rw [List.length_append, List.length_map, List.length_singleton, sizeLine_eq]; omega, ?_⟩
                refine ⟨some (.int e0), os ++ [none, some e0], rfl, ?_, ?_, by rw [List.length_append]; show os.length + 2 ≤ _; omega, fun x hx => ?_, A13.beside hB (A13.beside hB A15)⟩
                · rw [upd_ne nDB, upd_ne nDB]
                  exact hD15
                · rw [upd_same, List.map_append, List.append_assoc]
                  rfl
                · unfold got at hx hos
                  rw [List.filterMap_append] at hx
                  rcases List.mem_append.mp hx with z | z
                  · exact hos x z
                  · rw [List.mem_singleton.mp (show x ∈ [e0] from z)]
                    exact he0
              · refine ⟨_, rfl, .inl ⟨rfl, _, SqL.of hB15⟩, _, rfl, B, os.map oV, .int e0, rfl, rfl, hB15, by rw [List.length_map, sizeLine_eq]; omega, ?_⟩
                refine ⟨some (.int e0), os ++ [some e0], rfl, ?_, ?_, by rw [List.length_append]; show os.length + 1 ≤ _; omega, fun x hx => ?_, A13.beside hB A15⟩
                · rw [upd_ne nDB]
                  exact hD15
                · rw [upd_same, List.map_append]
                  rfl
                · unfold got at hx hos
                  rw [List.filterMap_append] at hx
                  rcases List.mem_append.mp hx with z | z
                  · exact hos x z
                  · rw [List.mem_singleton.mp (show x ∈ [e0] from z)]
                    exact he0
            · rintro σ H14 ⟨z8, os, rfl, hD14, hB14, lo, hos, A14⟩
              obtain ⟨ps, ep, lp, hp⟩ := cut_map os n
              refine ⟨_, rfl, _, rfl, n, rfl, B, os.map oV, rfl, SqL.of hB14, fun p hpn => ?_⟩
              rw [ep]
              refine rest_ok n6 (A14.same (same_upd' hpn)) upd_same (A14.there hpn) ⟨by omega, fun x hx => ?_⟩ fun _ _ h => h
              have z := gr x (hos x (hp x hx))
              omega
          · refine rest_ok (os := gs.map some) n6 A13 (by rw [List.map_map]; exact hg13) nDa ⟨by rw [List.length_map]; omega, fun x hx => ?_⟩ fun _ _ h => h
            rw [got_some] at hx
            have z := gr x hx
            omega
        · rintro σ H11 _
          exact q _
end
end Hd
set_option Elab.async false
set_option linter.all false
set_option maxRecDepth 100000
set_option maxHeartbeats 1000000
namespace Hd
open PySem PySem.Spec PyProof.Rows L2 Gk He
section
variable {K : PySem.W.Frag} {mg : Str → Option Value} {h : Heap} {S C fI : Addr} {nm f g ql q : Str} {stm : Stmt} {N : Addr} {bs : List Value} {sn : List Str} {sub : List Value} {ab : Bool} {col : Option Bool} {dd : Option Addr} {k0 k1 k2 k3 k5 : Option Value}
  {oc : Value} {od : Option Addr} {kV doc pm cdv ct : Value} {an : Option Addr} {sl : Array (Option Value)}
theorem mkXC (row : K.lookup C = some (excClassObj nm q C N bs [.ref S, .type "ValueError", .type "Exception", .type "BaseException", .type "object"] true sn sub ab col dd k0 k1 k2 k3 k5 "ValueError.__new__"))
    (sa : PySem.W.findIn K (.ref C) "__setattr__" = some (some (.builtin "object.__setattr__"))) (ga : PySem.W.findIn K (.ref C) "__getattribute__" = some (some (.builtin "BaseException.__getattribute__")))
    (gg : PySem.W.findIn K (.ref C) "__getattr__" = some none) (cl : PySem.W.findIn K (.ref C) "__class__" = some (some (.builtin "object.__class__"))) (kp : PySem.W.keepIn K (.ref C) = true) : XC K S C nm :=
  ⟨⟨q, N, bs, sn, sub, ab, col, dd, k0, k1, k2, k3, k5, row⟩, sa, ga, gg, cl, kp⟩
theorem mkE1 (X : K.In h) (G : h.Ns mainGlobals mg) (aC : PySem.W.nsIn K mainGlobals nm = some (some (.ref C)))
    (row : K.lookup C = some (excClassObj nm q C N bs [.ref S, .type "ValueError", .type "Exception", .type "BaseException", .type "object"] true sn sub ab col dd k0 k1 k2 k3 k5 "ValueError.__new__"))
    (sa : PySem.W.findIn K (.ref C) "__setattr__" = some (some (.builtin "object.__setattr__"))) (ga : PySem.W.findIn K (.ref C) "__getattribute__" = some (some (.builtin "BaseException.__getattribute__")))
    (gg : PySem.W.findIn K (.ref C) "__getattr__" = some none) (cl : PySem.W.findIn K (.ref C) "__class__" = some (some (.builtin "object.__class__"))) (kp : PySem.W.keepIn K (.ref C) = true)
    (no : PySem.W.findIn K (.ref C) f = some none) (iC : PySem.W.findIn K (.ref C) "__init__" = some (some (.ref fI))) (tI : PySem.W.typeIn K (.ref fI) = some (.type "function"))
    (l : K.lookup fI = some ⟨oc, od, .func (PySem.W.fnOf "__init__" ql (defArgs stm) (defBody stm) (defScope stm) .none kV doc pm an cdv ct), sl⟩) (c : PySem.W.codeIn K cdv ql = true) (k : PySem.W.keepIn K (.ref fI) = true)
    (hb : ∃ p1 p2 p3 p4, defBody stm = [.Assign [.Attribute (.Name "self" p1) f p2] (.Name f p3) p4]) (sc : FnScope ["self", f] ["self", f] (defScope stm))
    (h1 : (f == ("__debug__" : Str)) = false) (h2 : (f == ("__classdict__" : Str)) = false)
    (bi : ∀ (kV doc pm : Value) (an : Option Addr) (cdv ct : Value) (us : List Value), us.length = (["self", f] : List Str).length → bindArgs (PySem.W.fnOf "__init__" ql (defArgs stm) (defBody stm) (defScope stm) .none kV doc pm an cdv ct) ⟨us, []⟩ = pure ((["self", f] : List Str).zip us)) :
    E1 K mg S C nm f := by
  have x := mkXC row sa ga gg cl kp
  have F := fun_mk (st := stm) l c k
  exact ⟨x, PySem.W.mg_of X G aC, no, fI, _, iC, tI, F.binds bi, fun P w base => ok_init1 F x no hb sc h1 h2⟩
end
section
variable {K : PySem.W.Frag} {mg : Str → Option Value} {h : Heap} {S C : Addr} {nm f g ql : Str} {stm : Stmt}
theorem rowB_ok (h : Hx.rowB K S C nm = true) : ∃ q N bs sn sub ab col dd k0 k1 k2 k3 k5, K.lookup C = some (excClassObj nm q C N bs [.ref S, .type "ValueError", .type "Exception", .type "BaseException", .type "object"] true sn sub ab col dd k0 k1 k2 k3 k5 "ValueError.__new__") := by
  unfold Hx.rowB at h
  cases e : K.lookup C with
  | none =>
    rw [e] at h
    cases h
  | some u =>
    rw [e] at h
    obtain ⟨oc, od, dt, osl⟩ := u
    cases oc with
    | type t =>
      cases dt with
      | cls cd =>
        obtain ⟨a1, h1⟩ := ba h
        obtain ⟨a2, h2⟩ := ba h1
        obtain ⟨a3, h3⟩ := ba h2
        obtain ⟨a4, h4⟩ := ba h3
        obtain ⟨a5, h5⟩ := ba h4
        obtain ⟨m1, m2, m3, m4, m5, m6, m7, m8, m9, m10, m11⟩ := cd
        obtain ⟨l⟩ := osl
        have b1 := of_decide_eq_true a1
        have b2 : m1 = nm := of_decide_eq_true a2
        have b3 : m3 = _ := of_decide_eq_true a3
        have b4 : m6 = true := a4
        have b5 : m11 = false := by
          cases z : m11 with
          | false => rfl
          | true =>
            rw [z] at a5
            cases a5
        have b6 : (match (generalizing := false) l with
          | [_, _, _, _, some (.builtin n), _] => decide (n = "ValueError.__new__")
          | _ => false) = true := h5
        subst b1 b2 b3 b4 b5
        split at b6
        · have b7 := of_decide_eq_true b6
          subst b7
          exact ⟨_, _, _, _, _, _, _, _, _, _, _, _, _, rfl⟩
        · cases b6
      | _ => cases h
    | _ => cases dt <;> cases h
theorem find_ok {r : Option Value} (h : Hx.findB K C f r = true) : PySem.W.findIn K (.ref C) f = some r := eqO_ok h
theorem mk1_of (X : K.In h) (G : h.Ns mainGlobals mg) (gl : (Fa.glo nm).ok K = true) (c : Hx.oneB K (nm, f) = true)
    (F : ∃ fd, FunD K "__init__" ql (defArgs stm) (defBody stm) (defScope stm) [] [] (ma K (ga K nm) "__init__") fd)
    (hb : ∃ p1 p2 p3 p4, defBody stm = [.Assign [.Attribute (.Name "self" p1) f p2] (.Name f p3) p4]) (sc : FnScope ["self", f] ["self", f] (defScope stm))
    (h1 : (f == ("__debug__" : Str)) = false) (h2 : (f == ("__classdict__" : Str)) = false)
    (bi : ∀ (kV doc pm : Value) (an : Option Addr) (cdv ct : Value) (us : List Value), us.length = (["self", f] : List Str).length → bindArgs (PySem.W.fnOf "__init__" ql (defArgs stm) (defBody stm) (defScope stm) .none kV doc pm an cdv ct) ⟨us, []⟩ = pure ((["self", f] : List Str).zip us)) :
    E1 K mg (ga K "SlopeError") (ga K nm) nm f := by
  obtain ⟨c, d⟩ := ba c
  obtain ⟨no, d2⟩ := ba d
  obtain ⟨iC, tI⟩ := ba d2
  obtain ⟨r, c1⟩ := ba c
  obtain ⟨sa, c2⟩ := ba c1
  obtain ⟨gt, c3⟩ := ba c2
  obtain ⟨gg, c4⟩ := ba c3
  obtain ⟨cl, kp⟩ := ba c4
  obtain ⟨q, N, bs, sn, sub, ab, col, dd, k0, k1, k2, k3, k5, row⟩ := rowB_ok r
  obtain ⟨fd, F⟩ := F
  obtain ⟨oc, od, dV, kV, doc, pm, an, cdv, ct, osl, e, l, cc, dfl, kwd⟩ := F.ex
  have dn : dV = .none := by
    rcases dfl with ⟨_, z⟩ | ⟨z, _⟩
    · exact z
    · exact absurd rfl z
  subst dn
  rw [e] at l
  exact mkE1 X G (eqO_ok gl) row (find_ok sa) (find_ok gt) (find_ok gg) (find_ok cl) kp (find_ok no) (find_ok iC) (of_decide_eq_true tI) l cc F.kp hb sc h1 h2 bi
theorem fun_of {x : Str} {a : Addr} (F : ∃ fd, FunD K x x (defArgs stm) (defBody stm) (defScope stm) [] [] a fd) : ∃ fd, Fun K x x stm a fd := by
  obtain ⟨fd, F⟩ := F
  obtain ⟨oc, od, dV, kV, doc, pm, an, cdv, ct, osl, e, l, cc, dfl, kwd⟩ := F.ex
  have dn : dV = .none := by
    rcases dfl with ⟨_, z⟩ | ⟨z, _⟩
    · exact z
    · exact absurd rfl z
  subst dn
  rw [e] at l
  exact ⟨_, fun_mk (st := stm) l cc F.kp⟩
theorem law_of {a : Addr} (F : ∃ fd, FunD K "law" "law" (defArgs (topS 34)) (defBody (topS 34)) (defScope (topS 34)) [] [] a fd) : ∃ fd, Fun K "law" "law" (topS 34) a fd ∧ ∀ (s : Shared) (u : Value), BindsTo s fd ⟨[u], []⟩ [("_law_script", u)] := by
  obtain ⟨fd, F⟩ := F
  obtain ⟨oc, od, dV, kV, doc, pm, an, cdv, ct, osl, e, l, cc, dfl, kwd⟩ := F.ex
  have dn : dV = .none := by
    rcases dfl with ⟨_, z⟩ | ⟨z, _⟩
    · exact z
    · exact absurd rfl z
  subst dn
  rw [e] at l
  exact ⟨_, fun_mk (st := (topS 34)) l cc F.kp, fun s u => .of_eq rfl⟩
end
theorem walk_E {l : PySem.W.OpenLaw} {n k : Nat} {q : Program} {loose : List Str} {XP : (Str → Option Value) → Heap → Prop} {YP : World → Heap → Prop} {d : DefRec} {CX : CXT} {x : Str}
    (hn : l.most = some n) (hn2 : n ≤ sizeLine) (hdf : d.params.defaults = []) (rm : Room k callerA)
    (F : ∀ (w : World) (mg : Str → Option Value) (fa : Addr) (h : Heap), YP w h → h.Ns mainGlobals mg → mg d.name = some (.ref fa) →
      ∃ (K : PySem.W.Frag) (sp : Sp) (fd : FuncData), K.In h ∧ (∀ (s : Shared) (u : Value), BindsTo s fd ⟨[u], []⟩ [(x, u)]) ∧
        (∀ (H : Hp) (a : Addr) (ns : List Int), ns.length ≤ n → (∀ z ∈ ns, Builtin.Int.intBits z ≤ 1048576) → Only H → SqL K H a (ns.map V.int) → sp [.ref a] H (fun v _ => v = .bl true) fun _ _ _ => False) ∧
        ∀ base : Heap, K.In base → base.Ns mainGlobals mg → GOk l.prog w K mg base CX k fa fd [x] sp)
    (hCX : ∀ (H : Hp) (s : Shared) (e : Value) (s' : Shared), CX [] H s (fun _ _ _ => False) e s' → False) :
    PySem.W.WalkO q loose XP YP l.row.toRowW d [] (fun f vs => PySem.call f vs) := by
  refine Att.attach_callB hn hdf ?_
  intro w s0 s1 mg mb fa o pm cd doc a vs ns Gr Y ho hd hcd hmg hobj hints hlen hbits hg
  obtain ⟨K, sp, fd, KX, hb, hsp, hF⟩ := F w mg fa _ Y Gr.T.g hmg
  exact end_call KX Gr.T.g Gr.T.b Gr.T.builtins Gr.T.nolimit hg hobj hints (Nat.le_trans hlen hn2) rm hF hb
    (fun H hO hS => hsp H a ns hlen hbits hO hS) (fun H e s' => hCX H s1 e s')
theorem hbG : ∃ p1 p2 p3 p4, defBody (inClass (topS 2) 0) = [.Assign [.Attribute (.Name "self" p1) "index" p2] (.Name "index" p3) p4] := ⟨_, _, _, _, rfl⟩
theorem scG : FnScope ["self", "index"] ["self", "index"] (defScope (inClass (topS 2) 0)) := ⟨rfl, rfl, rfl, by decide +kernel, rfl, by decide +kernel, by decide +kernel⟩
theorem hbC : ∃ p1 p2 p3 p4, defBody (inClass (topS 3) 0) = [.Assign [.Attribute (.Name "self" p1) "count" p2] (.Name "count" p3) p4] := ⟨_, _, _, _, rfl⟩
theorem scC : FnScope ["self", "count"] ["self", "count"] (defScope (inClass (topS 3) 0)) := ⟨rfl, rfl, rfl, by decide +kernel, rfl, by decide +kernel, by decide +kernel⟩
theorem sys_ok {K : PySem.W.Frag} (h : Hx.sysB K = true) : SysK K := by
  unfold Hx.sysB at h
  cases e : K.lookup sysModules with
  | none =>
    rw [e] at h
    cases h
  | some o =>
    rw [e] at h
    exact ⟨o, e, of_decide_eq_true h⟩
theorem facts {P : Program} {w : World} {K : PySem.W.Frag} {h : Heap} {mg : Str → Option Value} {fa : Addr} (KX : K.In h) (G : h.Ns mainGlobals mg) (hmg : mg ("law" : Str) = some (.ref fa)) (c : Hx.SaysH K) :
    ∃ fd : FuncData, (∀ (s : Shared) (u : Value), BindsTo s fd ⟨[u], []⟩ [("_law_script", u)]) ∧ ∀ base : Heap, K.In base → base.Ns mainGlobals mg → GOk P w K mg base CX0 10 fa fd ["_law_script"] (spLaw K) := by
  obtain ⟨cd, cx⟩ := c
  obtain ⟨cs, c1⟩ := ba cx
  have d1 := List.all_eq_true.mp c1
  have eG := mk1_of (nm := "BadGrouping") (f := "index") (ql := "BadGrouping.__init__") (stm := inClass (topS 2) 0) KX G (cd.fact 28 (f := .glo "BadGrouping") rfl) (d1 ("BadGrouping", "index") (List.mem_of_getElem? (i := 0) rfl)) (cd.def_ 28 (d := Hx.dIn "BadGrouping" "BadGrouping.__init__" 2) rfl) hbG scG (by decide) (by decide) (fun _ _ _ _ _ _ us hl => match us, hl with | [_, _], _ => rfl)
  have eC := mk1_of (nm := "BadCount") (f := "count") (ql := "BadCount.__init__") (stm := inClass (topS 3) 0) KX G (cd.fact 29 (f := .glo "BadCount") rfl) (d1 ("BadCount", "count") (List.mem_of_getElem? (i := 1) rfl)) (cd.def_ 29 (d := Hx.dIn "BadCount" "BadCount.__init__" 3) rfl) hbC scC (by decide) (by decide) (fun _ _ _ _ _ _ us hl => match us, hl with | [_, _], _ => rfl)
  have h_isq : At K mg "is_sequence" 5 := by
    obtain ⟨fd, F⟩ := fun_of (stm := topS 5) (cd.def_ 0 (d := Hx.dFn "is_sequence" 5) rfl)
    exact ⟨_, fd, F, glo_ok KX G (cd.fact 0 (f := .glo "is_sequence") rfl)⟩
  have h_uns : At K mg "unshared" 7 := by
    obtain ⟨fd, F⟩ := fun_of (stm := topS 7) (cd.def_ 1 (d := Hx.dFn "unshared" 7) rfl)
    exact ⟨_, fd, F, glo_ok KX G (cd.fact 1 (f := .glo "unshared") rfl)⟩
  have h_gmy : At K mg "groups_many" 11 := by
    obtain ⟨fd, F⟩ := fun_of (stm := topS 11) (cd.def_ 2 (d := Hx.dFn "groups_many" 11) rfl)
    exact ⟨_, fd, F, glo_ok KX G (cd.fact 2 (f := .glo "groups_many") rfl)⟩
  have h_cct : At K mg "check_count" 12 := by
    obtain ⟨fd, F⟩ := fun_of (stm := topS 12) (cd.def_ 3 (d := Hx.dFn "check_count" 12) rfl)
    exact ⟨_, fd, F, glo_ok KX G (cd.fact 3 (f := .glo "check_count") rfl)⟩
  have h_agr : At K mg "all_groupings" 13 := by
    obtain ⟨fd, F⟩ := fun_of (stm := topS 13) (cd.def_ 4 (d := Hx.dFn "all_groupings" 13) rfl)
    exact ⟨_, fd, F, glo_ok KX G (cd.fact 4 (f := .glo "all_groupings") rfl)⟩
  have h_cog : At K mg "count_groupings" 14 := by
    obtain ⟨fd, F⟩ := fun_of (stm := topS 14) (cd.def_ 5 (d := Hx.dFn "count_groupings" 14) rfl)
    exact ⟨_, fd, F, glo_ok KX G (cd.fact 5 (f := .glo "count_groupings") rfl)⟩
  have h_bko : At K mg "book_of" 15 := by
    obtain ⟨fd, F⟩ := fun_of (stm := topS 15) (cd.def_ 6 (d := Hx.dFn "book_of" 15) rfl)
    exact ⟨_, fd, F, glo_ok KX G (cd.fact 6 (f := .glo "book_of") rfl)⟩
  have h_han : At K mg "_law_hand" 17 := by
    obtain ⟨fd, F⟩ := fun_of (stm := topS 17) (cd.def_ 7 (d := Hx.dFn "_law_hand" 17) rfl)
    exact ⟨_, fd, F, glo_ok KX G (cd.fact 7 (f := .glo "_law_hand") rfl)⟩
  have h_mix : At K mg "_law_mixed" 18 := by
    obtain ⟨fd, F⟩ := fun_of (stm := topS 18) (cd.def_ 8 (d := Hx.dFn "_law_mixed" 18) rfl)
    exact ⟨_, fd, F, glo_ok KX G (cd.fact 8 (f := .glo "_law_mixed") rfl)⟩
  have h_tak : At K mg "_law_take" 19 := by
    obtain ⟨fd, F⟩ := fun_of (stm := topS 19) (cd.def_ 9 (d := Hx.dFn "_law_take" 19) rfl)
    exact ⟨_, fd, F, glo_ok KX G (cd.fact 9 (f := .glo "_law_take") rfl)⟩
  have h_man : At K mg "_law_many" 20 := by
    obtain ⟨fd, F⟩ := fun_of (stm := topS 20) (cd.def_ 10 (d := Hx.dFn "_law_many" 20) rfl)
    exact ⟨_, fd, F, glo_ok KX G (cd.fact 10 (f := .glo "_law_many") rfl)⟩
  have h_gro : At K mg "_law_grouping" 21 := by
    obtain ⟨fd, F⟩ := fun_of (stm := topS 21) (cd.def_ 11 (d := Hx.dFn "_law_grouping" 21) rfl)
    exact ⟨_, fd, F, glo_ok KX G (cd.fact 11 (f := .glo "_law_grouping") rfl)⟩
  have h_rid : At K mg "_law_rid" 22 := by
    obtain ⟨fd, F⟩ := fun_of (stm := topS 22) (cd.def_ 12 (d := Hx.dFn "_law_rid" 22) rfl)
    exact ⟨_, fd, F, glo_ok KX G (cd.fact 12 (f := .glo "_law_rid") rfl)⟩
  have h_seq : At K mg "_law_seq" 23 := by
    obtain ⟨fd, F⟩ := fun_of (stm := topS 23) (cd.def_ 13 (d := Hx.dFn "_law_seq" 23) rfl)
    exact ⟨_, fd, F, glo_ok KX G (cd.fact 13 (f := .glo "_law_seq") rfl)⟩
  have h_int : At K mg "_law_int" 24 := by
    obtain ⟨fd, F⟩ := fun_of (stm := topS 24) (cd.def_ 14 (d := Hx.dFn "_law_int" 24) rfl)
    exact ⟨_, fd, F, glo_ok KX G (cd.fact 14 (f := .glo "_law_int") rfl)⟩
  have h_wit : At K mg "_law_within" 25 := by
    obtain ⟨fd, F⟩ := fun_of (stm := topS 25) (cd.def_ 15 (d := Hx.dFn "_law_within" 25) rfl)
    exact ⟨_, fd, F, glo_ok KX G (cd.fact 15 (f := .glo "_law_within") rfl)⟩
  have h_row : At K mg "_law_row" 26 := by
    obtain ⟨fd, F⟩ := fun_of (stm := topS 26) (cd.def_ 16 (d := Hx.dFn "_law_row" 26) rfl)
    exact ⟨_, fd, F, glo_ok KX G (cd.fact 16 (f := .glo "_law_row") rfl)⟩
  have h_spo : At K mg "_law_spoiled" 27 := by
    obtain ⟨fd, F⟩ := fun_of (stm := topS 27) (cd.def_ 17 (d := Hx.dFn "_law_spoiled" 27) rfl)
    exact ⟨_, fd, F, glo_ok KX G (cd.fact 17 (f := .glo "_law_spoiled") rfl)⟩
  have h_tal : At K mg "_law_all" 28 := by
    obtain ⟨fd, F⟩ := fun_of (stm := topS 28) (cd.def_ 18 (d := Hx.dFn "_law_all" 28) rfl)
    exact ⟨_, fd, F, glo_ok KX G (cd.fact 18 (f := .glo "_law_all") rfl)⟩
  have h_tco : At K mg "_law_counted" 29 := by
    obtain ⟨fd, F⟩ := fun_of (stm := topS 29) (cd.def_ 19 (d := Hx.dFn "_law_counted" 29) rfl)
    exact ⟨_, fd, F, glo_ok KX G (cd.fact 19 (f := .glo "_law_counted") rfl)⟩
  have h_tct : At K mg "_law_count" 30 := by
    obtain ⟨fd, F⟩ := fun_of (stm := topS 30) (cd.def_ 20 (d := Hx.dFn "_law_count" 30) rfl)
    exact ⟨_, fd, F, glo_ok KX G (cd.fact 20 (f := .glo "_law_count") rfl)⟩
  have h_tch : At K mg "_law_checked" 31 := by
    obtain ⟨fd, F⟩ := fun_of (stm := topS 31) (cd.def_ 21 (d := Hx.dFn "_law_checked" 31) rfl)
    exact ⟨_, fd, F, glo_ok KX G (cd.fact 21 (f := .glo "_law_checked") rfl)⟩
  have h_due : At K mg "_law_checked_due" 32 := by
    obtain ⟨fd, F⟩ := fun_of (stm := topS 32) (cd.def_ 22 (d := Hx.dFn "_law_checked_due" 32) rfl)
    exact ⟨_, fd, F, glo_ok KX G (cd.fact 22 (f := .glo "_law_checked_due") rfl)⟩
  have h_bdu : At K mg "_law_book_due" 33 := by
    obtain ⟨fd, F⟩ := fun_of (stm := topS 33) (cd.def_ 23 (d := Hx.dFn "_law_book_due" 33) rfl)
    exact ⟨_, fd, F, glo_ok KX G (cd.fact 23 (f := .glo "_law_book_due") rfl)⟩
  have h_who : AtD K mg "is_whole" 6 [.non, .non] := by
    obtain ⟨fd, F⟩ := cd.def_ 25 (d := Hx.dDf "is_whole" 6 [.non, .non]) rfl
    exact ⟨_, fd, F, glo_ok KX G (cd.fact 25 (f := .glo "is_whole") rfl)⟩
  have h_mis : AtD K mg "misnumbered_at" 8 [.bl false] := by
    obtain ⟨fd, F⟩ := cd.def_ 26 (d := Hx.dDf "misnumbered_at" 8 [.bl false]) rfl
    exact ⟨_, fd, F, glo_ok KX G (cd.fact 26 (f := .glo "misnumbered_at") rfl)⟩
  have h_cgr : AtD K mg "check_grouping" 10 [.bl false] := by
    obtain ⟨fd, F⟩ := cd.def_ 27 (d := Hx.dDf "check_grouping" 10 [.bl false]) rfl
    exact ⟨_, fd, F, glo_ok KX G (cd.fact 27 (f := .glo "check_grouping") rfl)⟩
  obtain ⟨dL, hL, bL⟩ := law_of (cd.def_ 24 (d := Hx.dFn "law" 34) rfl)
  have gl := glo_ok KX G (cd.fact 24 (f := .glo "law") rfl)
  have e := hmg.symm.trans gl
  cases e
  have n_len := free_ok KX G (cd.fact 30 (f := .free "len") rfl)
  have n_int := free_ok KX G (cd.fact 31 (f := .free "int") rfl)
  have n_abs := free_ok KX G (cd.fact 32 (f := .free "abs") rfl)
  have n_isinstance := free_ok KX G (cd.fact 33 (f := .free "isinstance") rfl)
  have n_bool := free_ok KX G (cd.fact 34 (f := .free "bool") rfl)
  have n_list := free_ok KX G (cd.fact 35 (f := .free "list") rfl)
  have n_tuple := free_ok KX G (cd.fact 36 (f := .free "tuple") rfl)
  have n_range := free_ok KX G (cd.fact 37 (f := .free "range") rfl)
  have n_enumerate := free_ok KX G (cd.fact 38 (f := .free "enumerate") rfl)
  have n_max := free_ok KX G (cd.fact 39 (f := .free "max") rfl)
  have n_min := free_ok KX G (cd.fact 40 (f := .free "min") rfl)
  have n_repr := free_ok KX G (cd.fact 41 (f := .free "repr") rfl)
  have T : TD mg := { len := n_len, int := n_int, abs := n_abs, isi := n_isinstance, bool := n_bool, list := n_list, tuple := n_tuple, range := n_range, enum := n_enumerate, max := n_max, min := n_min, rep := n_repr }
  have L : TL K mg := { td := T, sy := sys_ok cs, eG := ⟨_, _, eG⟩, eC := ⟨_, _, eC⟩, isq := h_isq, uns := h_uns, gmy := h_gmy, cct := h_cct, agr := h_agr, cog := h_cog, bko := h_bko, han := h_han, mix := h_mix, tak := h_tak, man := h_man, gro := h_gro, rid := h_rid, seq := h_seq, int := h_int, wit := h_wit, row := h_row, spo := h_spo, tal := h_tal, tco := h_tco, tct := h_tct, tch := h_tch, due := h_due, bdu := h_bdu, who := h_who, mis := h_mis, cgr := h_cgr }
  exact ⟨dL, bL, fun base _ _ => ok_law hL L⟩
end Hd
open PySem PySem.W PySem.Calls PyProof.Rows
theorem PySem.Challenge.cw_thinslopes_k03_whole_groupings_all_and_r_holds : PySem.Challenge.rw_thinslopes_k03_whole_groupings_all_and_r.Holds := by
  w_on; o_law
  refine HandSHeadRun.head_any (r := OpenLaw.row PySem.Challenge.rw_thinslopes_k03_whole_groupings_all_and_r) (q := HandSHeadRun.qR) (H := Hx.hk) (ob := Hx.ob) (M := 3240) (loose := Hx.loose) (d := HandSHeadRun.topDef (OpenLaw.row PySem.Challenge.rw_thinslopes_k03_whole_groupings_all_and_r).prog 34) (kwd := []) Hx.ob_eq
    (by kernel_rfl) (fun s => by kernel_rfl) HandSHeadRun.runR (by kernel_rfl) (by kernel_rfl) (by kernel_rfl) (by rfl) (by first | assumption | decide +kernel) (by decide +kernel) ⟨rfl, rfl, rfl, rfl, rfl, by decide +kernel⟩ ?hw ?hc
  case hw => w_witness2
  case hc =>
    refine Hd.walk_E (l := PySem.Challenge.rw_thinslopes_k03_whole_groupings_all_and_r) (n := 63) (k := 10) (x := "_law_script") (CX := L2.CX0) rfl (by decide) (by kernel_rfl) ⟨rfl, by decide, by decide⟩ ?F (fun _ _ _ _ z => z)
    intro w mg fa h Y G hmg0
    obtain ⟨K, KX, c⟩ := Y
    have hmg : mg ("law" : PySem.Str) = some (.ref fa) := by
      have e : (HandSHeadRun.topDef (OpenLaw.row PySem.Challenge.rw_thinslopes_k03_whole_groupings_all_and_r).prog 34).name = ("law" : PySem.Str) := by kernel_rfl
      rw [← e]
      exact hmg0
    obtain ⟨fd, hb, hF⟩ := Hd.facts (P := (PySem.Challenge.rw_thinslopes_k03_whole_groupings_all_and_r).prog) (w := w) KX G hmg c
    exact ⟨K, Hd.spLaw K, fd, KX, hb, fun H a ns hl _ _ hS => ⟨a, ns, rfl, hS, hl, fun _ => rfl⟩, hF⟩
