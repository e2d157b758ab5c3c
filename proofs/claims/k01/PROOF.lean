import PyProof.Rows.All
import Wide.All
import OpenK.AllK
import Wide.FinOn
import HandS.ForMost
import HandS.ForExc
import HandS.ExcInit
import HandS.ExcField
import HandS.IsInst
import HandS.StrMore
import HandS.FStr
import HandS.Conv
import KE.KExcInit
import HandS.ExcIs
import KE.KExcIs
import HandS.ExcValue
import PyProof.ExcBaseAll.ValueError
import PyProof.ExcBaseAll.LookupError
import PyProof.ExcBaseAll.ArithmeticError
import KE.KStateDown
import HandS.Defaults
import HandS.Head0
import HandS.Head1
import HandS.Head2
import HandS.HeadHook1
import PySem.Challenge.RW_toldcounts_k01_limits_and_errors
import HandS.Evl
import HandS.Walk
import HandS.HeadEnd
set_option Elab.async false
set_option linter.all false
set_option maxRecDepth 100000
set_option maxHeartbeats 0
namespace Tc
open PySem PySem.Spec PyProof.Rows L2
/-- what objects name: the values of dicts, the names of classes, the code of functions -/
def valsOf (o : Obj) : List Addr := match o.data with
  | .dict es _ => es.toList.flatMap fun e => He.refV e.val
  | _ => []
def nsOf (o : Obj) : List Addr := match o.data with
  | .cls cd => [cd.ns]
  | _ => []
def codeOf (o : Obj) : List Addr := match o.data with
  | .func fd => He.refV fd.code
  | _ => []
def reach (g : Addr → Option Obj) (f : Obj → List Addr) (as : List Addr) : List Addr := as.flatMap fun a => match g a with
  | some o => f o
  | none => []
/-- the module's names, what they stand for, the classes' names, their methods, the codes of all -/
def adsM (g : Addr → Option Obj) : List Addr :=
  let l1 := reach g valsOf [mainGlobals]
  let l2 := reach g nsOf l1
  let l3 := reach g valsOf l2
  mainGlobals :: sysModules :: (l1 ++ (l2 ++ (l3 ++ reach g codeOf (l1 ++ l3))))
/-- that part of the heap -/
def frM (g : Addr → Option Obj) : PySem.W.Frag := He.frG g (adsM g)
def obsM (F : PySem.W.Frag → Bool) (fn : List He.FnD) (K : PySem.W.Frag) : He.Al :=
  (F K && fn.all fun d => PySem.W.keepIn K (.ref (He.fAd K d.at_)) && (He.Fa.code d.at_ d.qual).ok K, fn.map fun d => He.fnObs K d.at_)
def SaysM (F : PySem.W.Frag → Bool) (fn : List He.FnD) (K : PySem.W.Frag) : Prop := obsM F fn K = He.valE fn
def obsMG (F : PySem.W.Frag → Bool) (fn : List He.FnD) (g : Addr → Option Obj) : He.Al := obsM F fn (frM g)
def hookM (F : PySem.W.Frag → Bool) (fn : List He.FnD) : PySem.W.Hook where
  α := He.Al
  obs := fun s => obsMG F fn s.heap.get?
  val := fun _ => He.valE fn
  says := fun _ h => ∃ K : PySem.W.Frag, K.In h ∧ SaysM F fn K
  of := fun _ _ e => ⟨_, He.frG_in, e⟩
  keeps := fun _ _ _ ⟨K, hK, c⟩ k => ⟨K, PySem.W.Frag.In.keeps hK k, c⟩
theorem obsMG_eq {F : PySem.W.Frag → Bool} {fn : List He.FnD} {g : Addr → Option Obj} {s : Shared}
    (h : ∀ a, g a = s.heap.get? a) : obsMG F fn g = (hookM F fn).obs s := by
  have e : g = s.heap.get? := funext h
  rw [e] <;> rfl
/-- the three bases: the built-in class under which a class stands -/
inductive Kin where
  | v | l | a
def Kin.B : Kin → String
  | .v => "ValueError"
  | .l => "LookupError"
  | .a => "ArithmeticError"
def Kin.new : Kin → String
  | .v => "ValueError.__new__"
  | .l => "LookupError.__new__"
  | .a => "ArithmeticError.__new__"
def Kin.ini : Kin → String
  | .v => "ValueError.__init__"
  | .l => "LookupError.__init__"
  | .a => "ArithmeticError.__init__"
def Kin.mro (k : Kin) : List Value := [.type k.B, .type "Exception", .type "BaseException", .type "object"]
def exkB (K : PySem.W.Frag) (k : Kin) (x fld : Str) : Bool :=
  let C := He.ga K x
  PySem.W.excInitIn K C k.mro k.new && (PySem.W.excOver K C k.mro && (PySem.W.hasDictIn K C &&
  (He.eqO (PySem.W.findIn K (.ref C) "__setattr__") (some (some (.builtin "object.__setattr__"))) &&
  (He.eqO (PySem.W.takerIn K C fld) (some none) && (He.eqO (PySem.W.findIn K (.ref C) fld) (some none) &&
  (He.eqO (PySem.W.findIn K (.ref C) "__init__") (some (some (.ref (He.ma K C "__init__")))) &&
  (decide (PySem.W.typeIn K (.ref (He.ma K C "__init__")) = some (.type "function")) && PySem.W.keepIn K (.ref C))))))))
def exaB (K : PySem.W.Frag) (x : Str) : Bool :=
  let C := He.ga K x
  He.eqO (PySem.W.findIn K (.ref C) "__getattribute__") (some (some (.builtin "BaseException.__getattribute__"))) &&
  (He.eqO (PySem.W.findIn K (.ref C) "__getattr__") (some none) &&
  (decide (PySem.W.subIn K (.ref C) (.type "BaseException") = some true) && (PySem.W.hasDictIn K C &&
  (He.eqO (PySem.W.findIn K (.ref C) "__class__") (some (some (.builtin "object.__class__"))) &&
  decide (PySem.W.mroIn K C (.type "object") = some true)))))
def exsB (K : PySem.W.Frag) : Bool :=
  He.eqO (PySem.W.specialIn K (.builtin "object.__class__") "__get__") (some (some (.builtin "getset_descriptor.__get__"))) &&
  decide (PySem.W.takesIn K (.builtin "object.__class__") = some true)
end Tc
namespace K01
open PySem PySem.Spec PyProof.Rows L2 Tc
def topS (i : Nat) : Stmt := PySem.Challenge.pw_toldcounts_k01_limits_and_errors.main.body.getD i (.Pass ⟨0, 0, 0, 0⟩)

/-- the exceptions with a field: name, field, base, place of the class in the text -/
def ex1 (x f : Str) (k : Kin) (n : Nat) : Str × Str × Kin × Nat := (x, f, k, n)
def al1 (x : Str) (k : Kin) : Str × Kin := (x, k)
def nu1 (x : Str) (n : Int) : Str × Int := (x, n)
def pl1 (x : Str) (n : Nat) : Str × Nat := (x, n)
def exs0 : List (Str × Str × Kin × Nat) := [  ex1 "InvalidText" "given" .v 2,
  ex1 "InvalidName" "given" .v 3,
  ex1 "InvalidNumber" "given" .v 4,
  ex1 "InvalidIndex" "given" .v 5,
  ex1 "InvalidStretch" "given" .v 6,
  ex1 "InvalidCount" "given" .v 7,
  ex1 "InvalidFilling" "given" .v 8,
  ex1 "InvalidCell" "given" .v 9,
  ex1 "InvalidTold" "given" .v 10,
  ex1 "InvalidPeople" "given" .v 11,
  ex1 "InvalidPlaces" "given" .v 12,
  ex1 "InvalidScale" "given" .v 13,
  ex1 "InvalidScores" "given" .v 14,
  ex1 "InvalidFact" "given" .v 15,
  ex1 "InvalidFace" "given" .v 16]
def exs1 : List (Str × Str × Kin × Nat) := [  ex1 "InvalidSpot" "given" .v 17,
  ex1 "InvalidBox" "given" .v 18,
  ex1 "InvalidShare" "given" .v 19,
  ex1 "InvalidPairs" "given" .v 20,
  ex1 "InvalidOrder" "given" .v 21,
  ex1 "InvalidProfile" "given" .v 22,
  ex1 "InvalidRule" "given" .v 23,
  ex1 "InvalidPlace" "given" .v 24,
  ex1 "InvalidWish" "given" .v 25,
  ex1 "NotAreas" "given" .v 26,
  ex1 "NotACross" "given" .v 27,
  ex1 "NotAPage" "given" .v 28,
  ex1 "NotAReport" "given" .v 29,
  ex1 "NotFaces" "given" .v 30,
  ex1 "NotAPoll" "given" .v 31]
def exs2 : List (Str × Str × Kin × Nat) := [  ex1 "NotVotes" "given" .v 32,
  ex1 "NotAThing" "given" .v 33,
  ex1 "NotADesk" "given" .v 34,
  ex1 "InvalidLines" "index" .v 35,
  ex1 "InvalidNames" "index" .v 36,
  ex1 "InvalidCells" "index" .v 37,
  ex1 "InvalidFacts" "index" .v 38,
  ex1 "InvalidShares" "index" .v 39,
  ex1 "InvalidFirsts" "index" .v 40,
  ex1 "InvalidPolls" "index" .v 41,
  ex1 "InvalidLog" "index" .v 42,
  ex1 "UnknownName" "given" .l 44,
  ex1 "InUse" "index" .l 45,
  ex1 "TooMany" "given" .a 47,
  ex1 "Broken" "index" .a 48]
def exs : List (Str × Str × Kin × Nat) := exs0 ++ (exs1 ++ exs2)
/-- all classes that the law asks for -/
def sorts : List Str := exs.map (·.1) ++ ([("NoData" : Str), ("NothingToUndo" : Str)] : List Str)
/-- and the three bases -/
def alls : List (Str × Kin) := exs.map (fun e => (e.1, e.2.2.1)) ++ [al1 "NoData" .a, al1 "NothingToUndo" .a, al1 "WrongValue" .v, al1 "WrongName" .l, al1 "NotPossible" .a]
def bares : List (Str × Kin) := [al1 "NoData" .a, al1 "NothingToUndo" .a, al1 "WrongValue" .v, al1 "WrongName" .l, al1 "NotPossible" .a]
def funs : List Str := (["_law_jar", "_law_draw", "_law_pick", "_law_odd", "_law_values", "_law_named_values", "_law_others", "_law_named_others", "_law_sort", "_law_bases", "_law_is_of", "_law_kept", "_law_right", "law"] : List String).map Str.ofString
def nums : List (Str × Int) := [nu1 "MOST_NUMBER" 4000, nu1 "MOST_LINES" 10, nu1 "MOST_SIDE_LINES" 8, nu1 "MOST_LEAVES" 4, nu1 "MOST_COUNTED" 40, nu1 "MOST_COVERED" 9, nu1 "MOST_BASE" 100, nu1 "MOST_SCORE" 6, nu1 "MOST_PEOPLE" 12, nu1 "MOST_FACTS" 6, nu1 "MOST_EDGE" 3, nu1 "MOST_FACE" 12, nu1 "MOST_SHARES" 6, nu1 "MOST_VOTERS" 60]
def frees : List Str := (["len", "int", "abs", "divmod", "range", "isinstance", "repr", "enumerate", "ValueError", "LookupError", "ArithmeticError"] : List String).map Str.ofString
abbrev s_jar : Stmt := topS 66
abbrev s_draw : Stmt := topS 67
abbrev s_pick : Stmt := topS 68
abbrev s_odd : Stmt := topS 69
abbrev s_values : Stmt := topS 70
abbrev s_named_values : Stmt := topS 71
abbrev s_others : Stmt := topS 72
abbrev s_named_others : Stmt := topS 73
abbrev s_sort : Stmt := topS 74
abbrev s_bases : Stmt := topS 75
abbrev s_is_of : Stmt := topS 76
abbrev s_kept : Stmt := topS 77
abbrev s_right : Stmt := topS 78
abbrev s_law : Stmt := topS 79
def dInit (e : Str × Str × Kin × Nat) : He.FnD := ⟨(e.1, some "__init__"), "__init__", e.1 ++ ".__init__", defArgs (inClass (topS e.2.2.2) 0), defBody (inClass (topS e.2.2.2) 0), defScope (inClass (topS e.2.2.2) 0)⟩
def dFun (p : Str × Nat) : He.FnD := ⟨(p.1, none), p.1, p.1, defArgs (topS p.2), defBody (topS p.2), defScope (topS p.2)⟩
def fplaces : List (Str × Nat) := [pl1 "_law_jar" 66, pl1 "_law_draw" 67, pl1 "_law_pick" 68, pl1 "_law_odd" 69, pl1 "_law_values" 70, pl1 "_law_named_values" 71, pl1 "_law_others" 72, pl1 "_law_named_others" 73, pl1 "_law_sort" 74, pl1 "_law_bases" 75, pl1 "_law_is_of" 76, pl1 "_law_kept" 77, pl1 "_law_right" 78, pl1 "law" 79]
def fn : List He.FnD := fplaces.map dFun ++ exs.map dInit
/-- under which of the built-in bases a class stands -/
def kinN : Kin → Nat
  | .v => 0
  | .l => 1
  | .a => 2
/-- what isinstance says of the i-th of all classes, asked for the j-th of all, then the three built-in ones -/
def says (i j : Nat) : Bool := match alls[i]? with
  | some (_, k) => decide (i = j) || (decide (47 + kinN k = j) || decide (50 + kinN k = j))
  | none => false
/-- the base of a class under which it stands -/
def baseOf : Kin → Str
  | .v => "WrongValue"
  | .l => "WrongName"
  | .a => "NotPossible"
/-- what stands in the i-th class's mro -/
def mroOf (K : PySem.W.Frag) (i : Nat) (x : Str) (k : Kin) : List Value := .ref (He.ga K x) :: ((if i < 47 then [Value.ref (He.ga K (baseOf k))] else []) ++ k.mro)
def mroB (K : PySem.W.Frag) (i : Nat) (x : Str) (k : Kin) : Bool := (match PySem.W.clsIn K (He.ga K x) with
  | some cd => decide (cd.mro = mroOf K i x k)
  | none => false) && decide (PySem.W.typeIn K (.ref (He.ga K x)) = some (.type "type"))
def nodupB : List Nat → Bool
  | [] => true
  | a :: r => r.all (fun b => !(a == b)) && nodupB r
def kitB (K : PySem.W.Frag) : Bool := ((List.range 50).all fun i => match alls[i]? with
  | some (x, k) => mroB K i x k
  | none => false) && nodupB (alls.map fun e => He.ga K e.1)
def F (K : PySem.W.Frag) : Bool :=
  exs.all (fun e => exkB K e.2.2.1 e.1 e.2.1) && (alls.all (fun e => exaB K e.1 && (He.Fa.glo e.1).ok K) && (exsB K &&
  (bares.all (fun e => PySem.W.excIn K (He.ga K e.1) e.2.mro e.2.new && PySem.W.keepIn K (.ref (He.ga K e.1))) &&
  (funs.all (fun x => (He.Fa.glo x).ok K) && (frees.all (fun x => (He.Fa.free x).ok K) &&
  (nums.all (fun e => (He.Fa.int e.1 e.2).ok K) && (kitB K && (K.lookup sysModules).isSome)))))))
abbrev R : PySem.W.OpenRow := PySem.W.OpenLaw.row PySem.Challenge.rw_toldcounts_k01_limits_and_errors
abbrev hk : PySem.W.Hook := hookM F fn
def ob (s : PySem.W.SharedT) : He.Al := obsMG F fn (HandSHeadRun.getT s)
theorem ob_eq (s : PySem.W.SharedT) : ob s = hk.obs s.abs := obsMG_eq (HandSHeadRun.getT_eq s)

def loose0 : List Str := (["WrongValue", "InvalidText", "InvalidName", "InvalidNumber", "InvalidIndex", "InvalidStretch", "InvalidCount", "InvalidFilling", "InvalidCell", "InvalidTold", "InvalidPeople", "InvalidPlaces", "InvalidScale", "InvalidScores", "InvalidFact", "InvalidFace", "InvalidSpot", "InvalidBox", "InvalidShare", "InvalidPairs", "InvalidOrder", "InvalidProfile", "InvalidRule", "InvalidPlace", "InvalidWish", "NotAreas", "NotACross", "NotAPage", "NotAReport", "NotFaces", "NotAPoll", "NotVotes", "NotAThing", "NotADesk", "InvalidLines", "InvalidNames", "InvalidCells", "InvalidFacts"] : List String).map Str.ofString
def loose1 : List Str := (["InvalidShares", "InvalidFirsts", "InvalidPolls", "InvalidLog", "WrongName", "UnknownName", "InUse", "NotPossible", "TooMany", "Broken", "NoData", "NothingToUndo", "MOST_NUMBER", "MOST_LINES", "MOST_SIDE_LINES", "MOST_LEAVES", "MOST_COUNTED", "MOST_COVERED", "MOST_BASE", "MOST_SCORE", "MOST_PEOPLE", "MOST_FACTS", "MOST_EDGE", "MOST_FACE", "MOST_SHARES", "MOST_VOTERS", "_law_jar", "_law_draw", "_law_pick", "_law_odd", "_law_values", "_law_named_values", "_law_others", "_law_named_others", "_law_sort", "_law_bases", "_law_is_of", "_law_kept"] : List String).map Str.ofString
def loose2 : List Str := (["_law_right"] : List String).map Str.ofString
def loose : List Str := loose0 ++ loose1 ++ loose2
theorem run (w : World) : HandSHeadRun.RunEq R (PySem.W.view R.prog [79]) hk ob 14000 loose w := by
  intro os
  kernel_rfl
end K01
/-! Defs that may show things: no repr runs around them (the guards are known to be none). -/
namespace Tc
open PySem PySem.Spec PyProof.Rows L2

/-- as a def's promise, for callers that no repr runs around -/
structure FnG (P : Program) (w : World) (K : PySem.W.Frag) (mg : Str → Option Value) (base : Heap)
    (CX : CXT) (k : Nat) (f : Addr) (fd : FuncData) (ps : List Str) (sp : Sp) : Prop where
  len : ∀ vs H Q E, sp vs H Q E → vs.length = ps.length
  run : ∀ (A : Around) (outer : List Env) (s : Shared) (H : Hp) (args : Args) (us : List Value)
    (vs : List V) (Q : VK) (E : XK), Room k A → A.guards = some [] →
    Env0 P w K mg base A outer s H → BindsTo s fd args (ps.zip us) → Vals vs us → sp vs H Q E →
    codeAny (model P w) A (.call (.ref f) args) (CR CX outer P w H s Q E) s

theorem FnG.of {P : Program} {w : World} {K : PySem.W.Frag} {mg : Str → Option Value} {base : Heap}
    {CX : CXT} {k : Nat} {f : Addr} {fd : FuncData} {ps : List Str} {sp : Sp}
    (F : FnOk P w K mg base CX k f fd ps sp) : FnG P w K mg base CX k f fd ps sp :=
  ⟨F.len, fun A o s H args us vs Q E hr _ => F.run A o s H args us vs Q E hr⟩

theorem FnG.mono {P : Program} {w : World} {K : PySem.W.Frag} {mg : Str → Option Value} {base : Heap}
    {CX : CXT} {j k : Nat} {f : Addr} {fd : FuncData} {ps : List Str} {sp : Sp}
    (F : FnG P w K mg base CX j f fd ps sp) (h : j ≤ k) : FnG P w K mg base CX k f fd ps sp :=
  ⟨F.len, fun A o s H args us vs Q E hr => F.run A o s H args us vs Q E (hr.mono h)⟩

section
variable {P : Program} {w : World} {K : PySem.W.Frag} {mg : Str → Option Value} {base : Heap}
theorem Fun.okG {CX : CXT} {x qual : Str} {st : Stmt} {f : Addr} {fd : FuncData} {N ps : List Str}
    {k : Nat} {sp : Sp} (F : Fun K x qual st f fd) (S : FnScope N ps (defScope st))
    (len : ∀ vs H Q E, sp vs H Q E → vs.length = ps.length)
    (hbody : ∀ (cdv : Value) (A : Around) (outer : List Env) (s : Shared) (H : Hp) (vs : List V)
      (Q : VK) (E : XK), Room k (A.deeper (envOfC qual (defScope st) s.heap.objs.size f cdv)) →
      (A.deeper (envOfC qual (defScope st) s.heap.objs.size f cdv)).guards = some [] →
      sp vs H Q E →
      ∃ t, PSs (cxOf CX P w K mg base N qual (defScope st) f cdv A outer s H E) (defBody st) t ∧
        t { nx := fun _ H' => Q .non H', rt := Q } (start N vs) H) :
    FnG P w K mg base CX (k + 1) f fd ps sp := by
  obtain ⟨oc, od, kV, doc, pm, an, cdv, ct, osl, rfl, lk, hcd⟩ := F.ex
  refine ⟨len, ?_⟩
  intro A outer s H args us vs Q E hr hgd e0 hb r hsp
  have vl := len _ _ _ _ hsp
  have kin : K.In s.heap := e0.mod.kin.keeps (fun b o e => (e0.bs b o e).1)
  have nlim : s.heap.NoLimit := e0.mod.nolimit.keeps (fun b o e => (e0.bs b o e).1)
  have kinds : ∀ y ∈ ps.zip us, (defScope st).names.lookup y.1 = some .local ∨
      ((defScope st).names.lookup y.1 = some .cell ∧
        ((cellsFrom (s.heap.objs.size + 1) (defScope st).names []).lookup y.1).isSome = true) := by
    rintro ⟨n, v⟩ hy
    cases S.par n (List.of_mem_zip hy).1 with
    | inl q => exact .inl q
    | inr q => exact .inr ⟨q, PySem.W.cellsFrom_some _ _ _ (.inl q)⟩
  refine codeAny_call_function hr.depth (kin _ _ lk) rfl S.co S.gen rfl
    (PySem.W.codeRec_of kin hcd) (hb _ _ _ _ ?_)
  refine wpAny_newFunctionEnv_cells S.kind kinds (fun env he s1 x => ?_)
  subst he
  refine ⟨nlim.keeps x.toInCall.keep, codeAny_func ?_⟩
  obtain ⟨t, ht, hq⟩ := hbody cdv A outer s H vs Q E (hr.deeper _) hgd hsp
  have I := inv_start (CX := CX) (P := P) (w := w) (mg := mg) (base := base) (E := E) S hr.hd e0 vl r x
  refine wpAny_mono (ht.run [] s1 (start N vs) H _ I hq) (fun fl s' hs => ?_) (fun e s' hs => hs)
  have close : ∀ {σ' : L2.St} {H' : Hp} {v : V} {u : Value},
      Inv (cxOf CX P w K mg base N qual (defScope st) f cdv A outer s H E) [] σ' H' s' →
      RelV v u → Q v H' → CE outer P w H s Q u s' := by
    intro σ' H' v u J rv q
    exact ⟨v, H', J.os, J.bare, J.base, J.hok, rv, q⟩
  cases fl with
  | ret u => obtain ⟨v, σ', H', J, rv, q⟩ := hs; exact close J rv q
  | next => obtain ⟨σ', H', J, q⟩ := hs; exact close (v := V.non) (u := Value.none) J rfl q
  | brk => obtain ⟨_, _, _, q⟩ := hs; exact False.elim q
  | cont => obtain ⟨_, _, _, q⟩ := hs; exact False.elim q
end

section
variable {X : Cx} {CX : CXT} {k : Nat} {f : Addr} {fd : FuncData} {ps : List Str} {sp : Sp}
  {dvs : List V} {ds : List Value} {E : XK} {x : Str} {p pos : Pos} {e : Expr} {es : List Expr} {t : TA}

theorem run_fnG {pins : List (Addr × Obj)} {σ : L2.St} {H : Hp} {s : Shared} {Q : VK}
    {us : List Value} {vs : List V} (F : FnG X.prog X.w X.K X.mg X.base CX k f fd ps sp)
    (hr : Room k X.A) (hgd : X.A.guards = some []) (hb : Binds X.K fd ps ds) (hd : Vals dvs ds)
    (hx : Passes CX X E) (I : Inv X pins σ H s) (r : Vals vs us) (h : sp (vs ++ dvs) H Q E) :
    wpAny (model X.prog X.w) X.A (call (.ref f) us) (EP X pins σ Q) X.xe s := by
  have both : Vals (vs ++ dvs) (us ++ ds) := r.append hd
  have hl : (us ++ ds).length = ps.length := both.length ▸ F.len _ _ _ _ h
  have main := F.run X.A X.stack s H ⟨us, []⟩ (us ++ ds) (vs ++ dvs) Q E hr hgd I.env0
    (hb s us I.kIn hl) both h
  refine wpAny_call (codeAny_mono main ?_)
  intro res s' hq
  cases res with
  | error er => exact hx pins σ H s er s' I hq
  | ok fl =>
    cases fl with
    | ret u => exact I.after hq
    | next | brk | cont => exact False.elim hq

theorem pe_callG (F : FnG X.prog X.w X.K X.mg X.base CX k f fd ps sp) (hr : Room k X.A)
    (hgd : X.A.guards = some []) (hg : Gl X x) (hm : X.mg x = some (.ref f))
    (hk : PySem.W.keepIn X.K (.ref f) = true) (hb : Binds X.K fd ps ds) (hd : Vals dvs ds)
    (hx : Passes CX X E) (ha : PA X (e :: es) t)
    (hdb : (x == ("__debug__" : Str)) = false := by decide)
    (he : starEach (e :: es) X.env = (false, eval e X.env) :: starEach es X.env := by rfl)
    (hpl : (backTo pos (starEach es X.env)).any (·.1) = false := by rfl) :
    PE X (.Call (.Name x p) (e :: es) [] pos) (tCall sp dvs E t) := by
  constructor
  intro pins s σ H Q I h
  have args := ha.run pos pins s σ H _ I h
  refine wpAny_Call_Name_kw (ld_glob I hg hm ?_ hdb)
  refine PySem.W.callWith_K (h₀ := X.base) I.ok.mod.kin hk (thn args ?_) he hpl
  rintro us s1 ⟨vs, H1, I1, r, q⟩
  exact ⟨I1.kIn, run_fnG F hr hgd hb hd hx I1 r q⟩
end
end Tc
/-! Data at any depth, dicts too; what repr makes of them. -/
namespace Tc
open PySem PySem.Spec PyProof.Rows L2

def kD : Key → PyData
  | .inl i => .int i
  | .inr x => .str x

mutual
/-- the value is this data, all of it tracked -/
inductive Dv (H : Hp) : V → PyData → Prop
  | non : Dv H .non .none
  | bl (b : Bool) : Dv H (.bl b) (.bool b)
  | int (i : Int) : Dv H (.int i) (.int i)
  | str (x : Str) : Dv H (.str x) (.str x)
  | lst {a : Addr} {xs : List V} {ds : List PyData} : Rd H a (.lst xs) → DvAll H xs ds → Dv H (.ref a) (.list ds)
  | tup {a : Addr} {xs : List V} {ds : List PyData} : Rd H a (.tup xs) → DvAll H xs ds → Dv H (.ref a) (.tuple ds)
  | dct {a : Addr} {kvs : List (Key × V)} {ds : List (PyData × PyData)} : Rd H a (.dK kvs) → DvKv H kvs ds → Dv H (.ref a) (.dict ds)
inductive DvAll (H : Hp) : List V → List PyData → Prop
  | nil : DvAll H [] []
  | cons {v : V} {vs : List V} {d : PyData} {ds : List PyData} : Dv H v d → DvAll H vs ds → DvAll H (v :: vs) (d :: ds)
inductive DvKv (H : Hp) : List (Key × V) → List (PyData × PyData) → Prop
  | nil : DvKv H [] []
  | cons {k : Key} {v : V} {kvs : List (Key × V)} {d : PyData} {ds : List (PyData × PyData)} : Dv H v d → DvKv H kvs ds → DvKv H ((k, v) :: kvs) ((kD k, d) :: ds)
end

theorem rd_ne {H : Hp} {a : Addr} {u : HO} (h : Rd H a u) (hs : H sysModules = none) : a ≠ sysModules := by
  rintro rfl
  rcases h with h | ⟨o, h⟩ <;> (rw [hs] at h; cases h)

section
variable {X : Cx} {pins : List (Addr × Obj)} {σ : L2.St} {H : Hp} {s : Shared}
mutual
theorem Dv.reads (I : Inv X pins σ H s) (hs : H sysModules = none) : ∀ {v : V} {d : PyData}, Dv H v d → ∀ u, RelV v u →
    ∃ as, Reads s.heap u d as ∧ sysModules ∉ as
  | _, _, .non, _, r => by cases r; exact ⟨_, Reads.none, by simp⟩
  | _, _, .bl b, _, r => by cases r; exact ⟨_, Reads.bool b, by simp⟩
  | _, _, .int i, _, r => by obtain ⟨t, rfl⟩ := r; exact ⟨_, Reads.int i t, by simp⟩
  | _, _, .str x, _, r => by obtain ⟨t, rfl⟩ := r; exact ⟨_, Reads.str x t, by simp⟩
  | _, _, .lst h ha, _, r => by
    cases r
    obtain ⟨its, rv, ⟨o, n, ho, hc, _, hd⟩, _⟩ := I.list (.inl h)
    obtain ⟨as, hr, hn⟩ := DvAll.reads I hs ha _ rv
    exact ⟨_, Reads.list ho hc hd hr, by simpa using ⟨(rd_ne h hs).symm, hn⟩⟩
  | _, _, .tup h ha, _, r => by
    cases r
    obtain ⟨its, rv, ⟨o, ho, hc, n, hd⟩, _⟩ := I.tuple (.inl h)
    obtain ⟨as, hr, hn⟩ := DvAll.reads I hs ha _ rv
    exact ⟨_, Reads.tuple ho hc hd hr, hn⟩
  | _, _, .dct (a := a) h ha, _, r => by
    cases r
    obtain ⟨_, _, vs, rk, o, es, ep, ho, hx, hd, _, hp, _⟩ := h.ok I.hok
    obtain ⟨as, bs, h1, h2, n1, n2⟩ := DvKv.reads I hs ha _ rk _ hp
    exact ⟨_, Reads.dict ho hx.1 hd h1 h2, by
      simp only [List.cons_append, List.mem_cons, List.mem_append, not_or]
      exact ⟨(rd_ne h hs).symm, n1, n2⟩⟩
theorem DvAll.reads (I : Inv X pins σ H s) (hs : H sysModules = none) : ∀ {vs : List V} {ds : List PyData}, DvAll H vs ds → ∀ us, Vals vs us →
    ∃ as, ReadsAll s.heap us ds as ∧ sysModules ∉ as
  | _, _, .nil, _, r => by cases r; exact ⟨_, ReadsAll.nil, by simp⟩
  | _, _, .cons h1 h2, _, r => by
    cases r with
    | cons r1 r2 =>
      obtain ⟨as, q1, n1⟩ := Dv.reads I hs h1 _ r1
      obtain ⟨bs, q2, n2⟩ := DvAll.reads I hs h2 _ r2
      exact ⟨_, ReadsAll.cons q1 q2, by simpa using ⟨n1, n2⟩⟩
theorem DvKv.reads (I : Inv X pins σ H s) (hs : H sysModules = none) : ∀ {kvs : List (Key × V)} {ds : List (PyData × PyData)}, DvKv H kvs ds → ∀ vs, KV kvs vs → ∀ es, Pairs (mixKind X.prog X.w) es vs →
    ∃ as bs, ReadsAll s.heap (es.map (·.key)) (ds.map (·.1)) as ∧ ReadsAll s.heap (es.map (·.val)) (ds.map (·.2)) bs ∧ sysModules ∉ as ∧ sysModules ∉ bs
  | _, _, .nil, _, r, _, p => by
    cases r; cases p
    exact ⟨_, _, ReadsAll.nil, ReadsAll.nil, by simp, by simp⟩
  | _, _, .cons (k := k) h1 h2, _, r, _, p => by
    cases r with
    | cons r1 r2 =>
      cases p with
      | @cons e0 kv0 es0 kvs0 p1 p2 p3 =>
        obtain ⟨rk, rv⟩ := r1
        obtain ⟨as, q1, n1⟩ := Dv.reads I hs h1 _ rv
        obtain ⟨as', bs', q2, q3, n2, n3⟩ := DvKv.reads I hs h2 _ r2 _ p3
        have hk : ∃ cs, Reads s.heap e0.key (kD k) cs ∧ sysModules ∉ cs := by
          have p1' := p1
          rw [← rk, mixKind_is] at p1'
          rcases keyIs_shape p1' with ⟨i, t, e1, e2⟩ | ⟨x, t, e1, e2⟩
          · dsimp only at e1
            subst e1
            exact ⟨[], by rw [e2]; exact Reads.int i t, by simp⟩
          · dsimp only at e1
            subst e1
            exact ⟨[], by rw [e2]; exact Reads.str x t, by simp⟩
        obtain ⟨cs, hk1, hk2⟩ := hk
        exact ⟨_, _, ReadsAll.cons hk1 q2, ReadsAll.cons (show Reads s.heap e0.val _ as by rw [p2]; exact q1) q3, by simpa using ⟨hk2, n2⟩, by simpa using ⟨n1, n3⟩⟩
end
end

/-- repr(x) -/
def rRepr : List V → Hp → VK → Prop := fun xs H Q => ∃ v d, xs = [v] ∧ Dv H v d ∧ d.showable = true ∧ d.depth ≤ 100 ∧
  d.shown.length ≤ sizeLine ∧ Q (.str d.shown) H
theorem call_repr {X : Cx} {k : Nat} (hr : Room k X.A) (hgd : X.A.guards = some []) (hsm : ∃ o, X.K.lookup sysModules = some o) :
    CallR X (.builtin "repr") rRepr := by
  intro pins s σ H xs us Q I r h
  obtain ⟨v, d, rfl, hv, hs, hd, hl, q⟩ := h
  obtain ⟨u, rfl, ru⟩ := vals1 r
  have hun := hr.un
  have sm : H sysModules = none := by
    obtain ⟨o, ho⟩ := hsm
    exact I.bs _ _ (I.ok.mod.kin _ _ ho) |>.2
  obtain ⟨as, rd, na⟩ := Dv.reads I sm hv u ru
  cases hv with
  | non =>
    cases ru
    exact PySem.P.repr_of_none ⟨.str _, H, I.tok _, ⟨_, rfl⟩, q⟩
  | bl b =>
    cases ru
    exact PySem.P.repr_of_bool ⟨.str _, H, I.tok _, ⟨_, rfl⟩, q⟩
  | int i =>
    obtain ⟨t, rfl⟩ := ru
    exact PySem.P.repr_of_int (by simpa [PyData.showable] using hs) ⟨.str _, H, I.tok _, ⟨_, rfl⟩, q⟩
  | str x =>
    obtain ⟨t, rfl⟩ := ru
    exact PySem.P.repr_of_str ⟨.str _, H, I.tok _, ⟨_, rfl⟩, q⟩ (by simpa [PyData.shown] using hl)
  | lst _ _ | tup _ _ | dct _ _ =>
    cases ru
    refine repr_of_reads' rd hs (fun _ => na) hgd (by omega) (fun _ _ e => e) (fun h' u tk hk => ?_) hl
    exact ⟨.str _, H, I.kept (t' := tk) hk, ⟨_, rfl⟩, q⟩
end Tc
/-! The law's call, where the guards are known to be none. -/
namespace Tc
open PySem PySem.Spec PyProof.Rows L2

section
variable {P : Program} {w : World} {K : PySem.W.Frag} {mg mb : Str → Option Value} {CX : CXT}
  {k : Nat} {fa a : Addr} {fd : FuncData} {x : Str} {sp : Sp} {s₁ : Shared} {vs : List Value} {ns : List Int}

/-- what must hold behind the law's call -/
abbrev Behind (s₁ : Shared) : Result → Shared → Prop := fun r s' =>
  r = .ok (.ret (.bool true)) ∧ OldK s₁.heap s'.heap ∧ s'.os = s₁.os ∧ AllBare s'.gens

/-- the call, from a heap in which at most the script is tracked -/
theorem call_from (KX : K.In s₁.heap) (hns : s₁.heap.Ns mainGlobals mg) (hb : s₁.heap.Ns builtinsNs mb)
    (hbb : ∀ y : Str, y ≠ "__name__" → mb y = bootBuiltins y) (hlim : s₁.heap.NoLimit) (hg : s₁.gens = #[])
    (ha : s₁.heap.get? a = some { cls := .type "list", data := .seq vs.toArray }) (hr : Room k callerA)
    (F : ∀ base : Heap, K.In base → base.Ns mainGlobals mg → FnG P w K mg base CX k fa fd [x] sp)
    (hbind : ∀ (s : Shared) (u : Value), BindsTo s fd ⟨[u], []⟩ [(x, u)])
    (hCX : ∀ H e s', CX [] H s₁ (fun _ _ _ => False) e s' → False)
    (H : Hp) (hO : Only H) (hsp : sp [.ref a] H (fun v _ => v = .bl true) fun _ _ _ => False)
    (hok : HOk P w H s₁.heap) (hA : ∀ b, H b ≠ none → b = a) (hK : H a ≠ none → K.lookup a = none) :
    codeAny (model P w) callerA (.call (.ref fa) ⟨[.ref a], []⟩) (Behind s₁) s₁ := by
  have free : ∀ {b : Addr} {o : Obj}, s₁.heap.get? b = some o → (b = a → False) → H b = none := by
    intro b o _ hb
    cases q : H b with
    | none => rfl
    | some u => exact (hb (hA b (by rw [q]; exact Option.some_ne_none u))).elim
  have hidden : ∀ {b : Addr} {o : Obj}, s₁.heap.get? b = some o → H b = none →
      (hidT s₁.heap H).get? b = some o := fun e n => hidT_get e n
  have ofDict : ∀ {b : Addr} {o : Obj} {es : Array DictEntry} {ep : Nat},
      s₁.heap.get? b = some o → o.data = .dict es ep → H b = none := by
    intro b o es ep e d
    refine free e ?_
    rintro rfl
    rw [ha] at e
    cases e
    cases (show Data.seq vs.toArray _ = Data.dict es ep from d)
  have names : ∀ {b : Addr} {m : Str → Option Value}, s₁.heap.Ns b m → (hidT s₁.heap H).Ns b m := by
    rintro b m ⟨o, es, ep, e, d, r⟩
    exact ⟨o, es, ep, hidden e (ofDict e d), d, r⟩
  have written : K.In (hidT s₁.heap H) := by
    intro b o e
    refine hidden (KX b o e) ?_
    cases q : H b with
    | none => rfl
    | some u =>
      have eb : b = a := hA b (by rw [q]; exact Option.some_ne_none u)
      subst eb
      rw [hK (by rw [q]; exact Option.some_ne_none u)] at e
      cases e
  obtain ⟨mc, lim1, lim2⟩ := hlim
  have modl : Mod K mg (hidT s₁.heap H) := ⟨written, names hns, ⟨mb, names hb, hbb⟩, mc, names lim1, lim2⟩
  have e0 : Env0 P w K mg (hidT s₁.heap H) callerA [] s₁ H :=
    ⟨rfl, modl, fun b o e => of_hidT e, Nat.le_of_eq (hidT_size _ _), trivial,
      fun b h => (List.not_mem_nil (show b ∈ ([] : List Addr) from h)).elim, hok, .of_eq hg⟩
  have run := (F _ written (names hns)).run callerA [] s₁ H ⟨[.ref a], []⟩ [.ref a] [.ref a] _ _ hr rfl e0
    (hbind s₁ (.ref a)) (.cons rfl .nil) hsp
  refine codeAny_mono run ?_
  intro r s' h
  rcases r with e | fl
  · exact (hCX H e s' h).elim
  cases fl with
  | next | brk | cont => exact False.elim h
  | ret u =>
    obtain ⟨v, H', os, bare, un, hok', rv, q⟩ := h
    have hv : v = .bl true := q
    subst hv
    have hu : u = Value.bool true := rv
    subst hu
    refine ⟨rfl, OldK.of_keep (fun b o e => ?_), os, bare⟩
    cases q : H b with
    | none =>
      refine un.keep b o e q (fun z => ?_) (fun z => nomatch z)
      exact nomatch (show b ∈ ([] : List Addr) from z)
    | some u =>
      rcases hO b with z | ⟨ob, xs, z⟩
      · rw [q] at z
        cases z
      · have now := (hok b _ z).1
        have later := (hok' b _ (un.frzs b ob _ z)).1
        rw [e] at now
        cases now
        exact later

theorem law_callG (KX : K.In s₁.heap) (hns : s₁.heap.Ns mainGlobals mg) (hb : s₁.heap.Ns builtinsNs mb)
    (hbb : ∀ y : Str, y ≠ "__name__" → mb y = bootBuiltins y) (hlim : s₁.heap.NoLimit) (hg : s₁.gens = #[])
    (ha : s₁.heap.get? a = some { cls := .type "list", data := .seq vs.toArray }) (hi : IntsAre vs ns)
    (hl : ns.length ≤ sizeLine) (hr : Room k callerA)
    (F : ∀ base : Heap, K.In base → base.Ns mainGlobals mg → FnG P w K mg base CX k fa fd [x] sp)
    (hbind : ∀ (s : Shared) (u : Value), BindsTo s fd ⟨[u], []⟩ [(x, u)])
    (hsp : ∀ H : Hp, Only H → SqL K H a (ns.map V.int) → sp [.ref a] H (fun v _ => v = .bl true) fun _ _ _ => False)
    (hCX : ∀ H e s', CX [] H s₁ (fun _ _ _ => False) e s' → False) :
    codeAny (model P w) callerA (.call (.ref fa) ⟨[.ref a], []⟩) (Behind s₁) s₁ := by
  have rv := vals_ints hi
  have main := fun H hO hq => call_from (sp := sp) KX hns hb hbb hlim hg ha hr F hbind hCX H hO hq
  cases hk : K.lookup a with
  | some o =>
    have e := KX a o hk
    rw [ha] at e
    cases e
    have h0 : ∀ b : Addr, (none : Option HO) ≠ none → b = a := fun b z => absurd rfl z
    have lv : vs.toArray.size ≤ sizeLine := by
      rw [List.size_toArray, hi.length]
      exact hl
    refine main (fun _ => none) (fun _ => .inl rfl) (hsp _ (fun _ => .inl rfl) ?_)
      (fun b u z => nomatch (show (none : Option HO) = some u from z)) h0 (fun z => absurd rfl z)
    exact .inr ⟨_, vs.toArray, _, hk, rfl, rfl, rfl, lv, by simpa using rv⟩
  | none =>
    let ob : Obj := { cls := .type "list", data := .seq vs.toArray }
    let H : Hp := fun b => if b = a then some (.frz ob (.lst (ns.map V.int))) else none
    have at_a : H a = some (.frz ob (.lst (ns.map V.int))) := if_pos rfl
    have off : ∀ {b : Addr}, b ≠ a → H b = none := fun hb => if_neg hb
    have only : Only H := by
      intro b
      by_cases hb : b = a
      · rw [hb]
        exact .inr ⟨_, _, at_a⟩
      · exact .inl (off hb)
    refine main H only (hsp H only (.inl (.inr ⟨ob, at_a⟩))) (fun b u z => ?_) (fun b z => ?_) (fun _ => hk)
    · by_cases hb : b = a
      · subst hb
        rw [at_a] at z
        cases z
        exact ⟨ha, by rw [List.length_map]; exact hl, vs, _, rv, ha⟩
      · rw [off hb] at z
        cases z
    · by_cases hb : b = a
      · exact hb
      · exact absurd (off hb) z
end

/-- the end of a law's row: as the layer's own, its def a FnG -/
theorem walk_ofG {l : PySem.W.OpenLaw} {n k : Nat} {q : Program} {loose : List Str}
    {XP : (Str → Option Value) → Heap → Prop} {YP : World → Heap → Prop} {d : DefRec}
    {K : Params → PySem.W.Frag} {CX : World → CXT} {sp : World → Sp} {x : Str}
    (hn : l.most = some n) (hn2 : n ≤ sizeLine) (hdf : d.params.defaults = []) (hr : Room k callerA)
    (hY : ∀ (w : World) (h : Heap), YP w h → (K w.params).In h)
    (F : ∀ (w : World) (mg : Str → Option Value) (fa : Addr) (h : Heap), (K w.params).In h →
      h.Ns mainGlobals mg → mg d.name = some (.ref fa) →
      ∃ fd : FuncData, (∀ (s : Shared) (u : Value), BindsTo s fd ⟨[u], []⟩ [(x, u)]) ∧
        ∀ base : Heap, (K w.params).In base → base.Ns mainGlobals mg →
          FnG l.prog w (K w.params) mg base (CX w) k fa fd [x] (sp w))
    (hsp : ∀ (w : World) (H : Hp) (a : Addr) (ns : List Int), ns.length ≤ n → Only H →
      SqL (K w.params) H a (ns.map V.int) → sp w [.ref a] H (fun v _ => v = .bl true) fun _ _ _ => False)
    (hCX : ∀ (w : World) (H : Hp) (s : Shared) (e : Value) (s' : Shared),
      CX w [] H s (fun _ _ _ => False) e s' → False) :
    PySem.W.WalkO q loose XP YP l.row.toRowW d [] (fun f vs => PySem.call f vs) := by
  refine Att.attach_call hn hdf ?_
  intro w s₀ s₁ mg mb fa o pm cd doc a vs ns G Y ho hd hcd hmg hobj hints hlen hg
  obtain ⟨fd, hb, hF⟩ := F w mg fa _ (hY w _ Y) G.T.g hmg
  exact law_callG (hY w _ Y) G.T.g G.T.b G.T.builtins G.T.nolimit hg hobj hints (Nat.le_trans hlen hn2) hr hF hb
    (fun H hO hS => hsp w H a ns hlen hO hS) (fun H e s' => hCX w H s₁ e s')
end Tc
/-! An own exception class is called, with keywords too. -/
namespace Tc
open PySem PySem.Spec PySem.W
open Builtin Builtin.ObjectAttr
section
variable {M : Model} {A : Around} {E : Value → Shared → Prop} {h : Heap} {g : Array GenState} {d : Drawn} {t : Nat} {os : OsState}
variable {nm q : Str} {C N : Addr} {bs bm bmB : List Value} {hdct : Bool} {sn : List Str} {sub : List Value} {ab : Bool}
  {col : Option Bool} {dd : Option Addr} {k0 k1 k2 k3 k5 : Option Value} {B newId initId : String}

theorem check_newA (F : ExcBaseFacts B newId initId bmB) (hT : ∀ X : String, bm.contains (.type X) = bmB.contains (.type X))
    {rest : List Value} {kw : List (Str × Value)} {Q : Unit → Shared → Prop}
    (hC : h.get? C = some (excClassObj nm q C N bs bm hdct sn sub ab col dd k0 k1 k2 k3 k5 newId))
    (hq : Q () ⟨h, g, d, t, os⟩) : wpAny M A (checkBuiltinCall newId ⟨.ref C :: rest, kw⟩) Q E ⟨h, g, d, t, os⟩ := by
  have mine : (Value.ref C :: bm).contains (.type B) = true := by rw [List.contains_cons, hT, F.hasB, Bool.or_true]
  have star := F.noStar
  simp only [checkBuiltinCall, F.newKind, F.newSplit, F.newRow]
  repeat (first
    | refine wpAny_loadPart_at hC ?_
    | (refine wpAny_isSubtype_exc hC ?_; rw [mine])
    | refine wpAny_staticBase_exc hC ?_
    | refine wpAny_madeBy_exc hC ?_
    | simp only [bne_self_eq_false, Bool.false_eq_true, if_false]
    | wp_step)
  exact hq
end
section
variable {prog : Program} {w : World} {A : Around} {E : Value → Shared → Prop} {R : Result → Shared → Prop} {h : Heap}
  {g : Array GenState} {d : Drawn} {t : Nat} {os : OsState}
variable {nm q : Str} {C N : Addr} {bs bm bmB : List Value} {hdct : Bool} {sn : List Str} {sub : List Value} {ab : Bool}
  {col : Option Bool} {dd : Option Addr} {k0 k1 k2 k3 k5 : Option Value} {B newId initId : String}
theorem newA (F : ExcBaseFacts B newId initId bmB) (hT : ∀ X : String, bm.contains (.type X) = bmB.contains (.type X))
    {rest : List Value} {kw : List (Str × Value)}
    (hC : h.get? C = some (excClassObj nm q C N bs bm hdct sn sub ab col dd k0 k1 k2 k3 k5 newId))
    (hq : R (.ok (.ret (.ref (h.objs.size + 1))))
      ⟨(h.push (kdv_tup rest)).push (HandSPX.excO C h.objs.size), g, d, t, os⟩) (hrest : rest.length ≤ sizeLine) :
    codeAny (model prog w) A (.builtin newId ⟨.ref C :: rest, kw⟩) R ⟨h, g, d, t, os⟩ := by
  have hends := F.ends
  have mine : (Value.ref C :: bm).contains (.type B) = true := by rw [List.contains_cons, hT, F.hasB, Bool.or_true]
  have noA : (Value.ref C :: bm).contains (.type "AttributeError") = false := by rw [List.contains_cons, hT, F.noAttr]; rfl
  have noN : (Value.ref C :: bm).contains (.type "NameError") = false := by rw [List.contains_cons, hT, F.noName]; rfl
  refine codeAny_builtinAt F.entry ?_
  unfold Builtin.«BaseException.__new__»
  refine wpAt_bind ?_
  show wpAt _ _ _ (stack >>= _) _ _ _
  refine wpAt_bind (wpAt_stack ?_)
  intro p below
  refine wpAt_of_wpAny ?_
  wp_walk
  refine wpAt_of_wpAny ?_
  rw [F.owner]
  repeat (first
    | with_reducible refine wpAny_madeHere_exc F.canon hC ?_
    | with_reducible refine wpAny_loadPart_at hC ?_
    | (with_reducible refine wpAny_isSubtype_exc hC ?_; first | rw [mine] | rw [noA] | rw [noN])
    | wp_step)
  show R _ _
  rw [Heap.size_push]
  exact hq
/-- type.__call__ on such a class, its __init__ a def -/
theorem typeCallA (F : ExcBaseFacts B newId initId bmB) (hT : ∀ X : String, bm.contains (.type X) = bmB.contains (.type X))
    {rest : List Value} {kw : List (Str × Value)} {fI : Addr} {Q : PySem.Fin → Shared → Prop}
    (hC : h.get? C = some (excClassObj nm q C N bs bm hdct sn sub ab col dd k0 k1 k2 k3 k5 newId))
    (hi : W.Looks (model prog w) h (typeLookup (.ref C) "__init__") (some (.ref fI)))
    (hb : ∀ self, W.Looks (model prog w) h (bindSpecial (.ref fI) self) (.ref fI, [self])) (hrest : rest.length ≤ sizeLine)
    (hq : codeAny (model prog w) A (.call (.ref fI) ⟨.ref (h.objs.size + 1) :: rest, kw⟩)
      (fun r s' => match r with
        | .ok (.ret v) => v = .none ∧ Q (.done (.ret (.ref (h.objs.size + 1)))) s'
        | .ok _ => False
        | .error e => E e s')
      ⟨(h.push (W.kdv_tup rest)).push (HandSPX.excO C h.objs.size), g, d, t, os⟩) :
    wpAny (model prog w) A (Builtin.«type.__call__» ⟨.ref C :: rest, kw⟩) Q E ⟨h, g, d, t, os⟩ := by
  repeat (first
    | with_reducible refine wpAny_loadPart_at hC ?_
    | with_reducible refine wpAny_madeBy_exc hC ?_
    | wp_step)
  refine codeAny_call_builtin_code (Code.quiet_builtin _ F.quiet) (check_newA F hT hC ?_)
  refine newA F hT hC ?_ hrest
  show wpAny _ _ _ _ _ _
  have k : ∀ b o, h.get? b = some o →
      ((h.push (W.kdv_tup rest)).push (HandSPX.excO C h.objs.size)).get? b = some o := fun b o e =>
    Heap.get?_push_of_some _ (Heap.get?_push_of_some _ e)
  have inst : ((h.push (W.kdv_tup rest)).push (HandSPX.excO C h.objs.size)).get? (h.objs.size + 1) =
      some (HandSPX.excO C h.objs.size) := by heap_get
  have later := k _ _ hC
  have own : (Value.ref C :: bm).contains (.ref C) = true := by simp
  have i1 := hi.keeps k
  have b1 := (hb (.ref (h.objs.size + 1))).keeps k
  unfold isInstance
  repeat (first
    | with_reducible refine wpAny_loadPart_at inst ?_
    | (with_reducible refine wpAny_isSubtype_exc later ?_; rw [own])
    | wp_step)
  show wpAny _ _ (typeLookup (.ref C) _) _ _ _
  refine i1.at (wpAny_holding (wpAny_bind (b1.at ?_)))
  refine wpAny_bind (wpAny_call (codeAny_mono hq ?_))
  intro r s' z
  rcases r with e | (v | _ | _ | _) <;> first | exact z | exact z.elim | skip
  obtain ⟨rfl, z⟩ := z
  first
    | exact wpAny_pure (wpAny_pure z)
    | (wp_walk; exact z)

theorem callA (F : ExcBaseFacts B newId initId bmB) (hT : ∀ X : String, bm.contains (.type X) = bmB.contains (.type X))
    {rest : List Value} {kw : List (Str × Value)} {fI : Addr}
    (hC : h.get? C = some (excClassObj nm q C N bs bm hdct sn sub ab col dd k0 k1 k2 k3 k5 newId))
    (hi : W.Looks (model prog w) h (typeLookup (.ref C) "__init__") (some (.ref fI)))
    (hb : ∀ self, W.Looks (model prog w) h (bindSpecial (.ref fI) self) (.ref fI, [self])) (hrest : rest.length ≤ sizeLine)
    (hq : codeAny (model prog w) (A.under (.builtin "type.__call__" ⟨.ref C :: rest, kw⟩))
      (.call (.ref fI) ⟨.ref (h.objs.size + 1) :: rest, kw⟩) (W.InitBack (h.objs.size + 1) R)
      ⟨(h.push (W.kdv_tup rest)).push (HandSPX.excO C h.objs.size), g, d, t, os⟩) :
    codeAny (model prog w) A (.call (.ref C) ⟨rest, kw⟩) R ⟨h, g, d, t, os⟩ := by
  have f1 := PySem.tc_lookup
  have f2 := PySem.tc_bind (.ref C)
  have hTy : (⟨h, g, d, t, os⟩ : Shared).TypeIs (.ref C) "type" := ⟨_, hC, rfl⟩
  refine codeAny_of_tree ?_
  show wpAny _ _ (callAny (.ref C) _) _ _ _
  repeat (any_goals (first
    | assumption
    | with_reducible refine wpAny_loadPart_at hC ?_
    | wp_step))
  refine ⟨rfl, ?_⟩
  refine codeAny_call_builtin_at (Code.quiet_builtin _ (by decide +kernel)) entry_typeCall ?_
  refine wpAny_check_type_call_sub hC (typeCallA F hT hC hi hb hrest ?_)
  refine codeAny_mono hq ?_
  intro r s' z
  rcases r with e | (v | _ | _ | _) <;> exact z
end
end Tc
/-! An own exception class with one field is called: what stands then. -/
namespace Tc
open PySem PySem.Spec PySem.W
open Builtin Builtin.ObjectAttr

/-- what is written of an exception class with an __init__ at fI, over the base B; fld: its field -/
structure ExK (K : Frag) (C fI : Addr) (B newId initId : String) (bmB : List Value) (fld : Str) : Prop where
  base : ExcBaseFacts B newId initId bmB
  store : StoreFacts B bmB "object.__setattr__" "object"
  ini : excInitIn K C bmB newId = true
  over : excOver K C bmB = true
  own : hasDictIn K C = true
  sa : findIn K (.ref C) "__setattr__" = some (some (.builtin "object.__setattr__"))
  tak : takerIn K C fld = some none
  noF : findIn K (.ref C) fld = some none
  iC : findIn K (.ref C) "__init__" = some (some (.ref fI))
  tI : typeIn K (.ref fI) = some (.type "function")
  kp : keepIn K (.ref C) = true
/-- def __init__(self, FLD): self.FLD = FLD -/
structure InitDef (K : Frag) (fI : Addr) (qual fld : Str) (fd : FuncData) : Prop where
  ex : ∃ (oc : Value) (od : Option Addr) (kV doc pm : Value) (an : Option Addr) (cdv ct : Value) (osl : Array (Option Value))
    (pa : Arguments) (sc : Scope) (q1 q2 q3 q4 : Pos),
    fd = fnOf "__init__" qual pa [.Assign [.Attribute (.Name "self" q1) fld q2] (.Name fld q3) q4] sc .none kV doc pm an cdv ct ∧
    sc = { kind := .function, names := [("self", .local), (fld, .local)], isGenerator := false, isCoroutine := false, more := [] } ∧
    K.lookup fI = some ⟨oc, od, .func fd, osl⟩ ∧ codeIn K cdv qual = true

section
variable {prog : Program} {w : World} {A : Around} {E : Value → Shared → Prop} {R : Result → Shared → Prop}
  {hp : Heap} {g : Array GenState} {d : Drawn} {t : Nat} {os : OsState} {K : Frag} {C fI : Addr} {B newId initId : String}
  {bmB : List Value} {fld qual : Str} {fd : FuncData} {x t0 : Addr} {v : Value}
theorem osa_first {tk : Tok} (Z : ExK K C fI B newId initId bmB fld) (X : K.In hp)
    (hx : hp.get? x = some (HandSPX.excO C t0))
    (hq : ∀ h' tk' dx, (∀ b o, b ≠ x → hp.get? b = some o → h'.get? b = some o) → hp.objs.size ≤ dx → dx ≠ x →
      h'.get? x = some { HandSPX.excO C t0 with dict := some dx } →
      h'.Ns1 dx (fun y => if y = fld then some v else none) → R (.ok (.ret .none)) ⟨h', g, d, tk', os⟩) :
    codeAny (model prog w) A (.call (.builtin "object.__setattr__") ⟨[.ref x, .str fld tk, v], []⟩) R ⟨hp, g, d, t, os⟩ := by
  refine osa_openX (od := none) Z.store X ⟨hx, rfl, rfl, trivial⟩ Z.over Z.tak ?_
  intro b
  have hxs : x ≠ hp.objs.size := Nat.ne_of_lt (Heap.lt_size hx)
  obtain ⟨cd, hcd, hh⟩ := any_some Z.own
  have hcls : Looks (model prog w) hp (classData C) cd := looks_clsIn X hcd
  show wpAny _ _ (storeInOwnDict (.ref x) (.ref C) (.str fld tk) fld v b) _ _ _
  obtain ⟨nm, bs, mro, ns, qn, hd, sn, sb, ab, col, del⟩ := cd
  dsimp only at hh
  subst hh
  unfold storeInOwnDict ownDictForStores
  repeat (first
    | with_reducible refine HandSPX.store_in_new ?_ ?_
    | with_reducible refine wpAny_loadPart_at hx ?_
    | with_reducible refine hcls.at ?_
    | wp_step)
  · exact ⟨_, #[], _, (Heap.get?_update_ne _ _ _ _ hxs.symm).trans (Heap.get?_push_at rfl rfl), rfl,
      fun e he => absurd he (by simp), fun _ => rfl⟩
  · intro h' tk' hn' hs
    have hx1 : (hp.push { cls := .type "dict", data := .dict #[] }).get? x = some (HandSPX.excO C t0) :=
      Heap.get?_push_of_some _ hx
    refine hq h' tk' hp.objs.size ?_ (Nat.le_refl _) hxs.symm ?_ hn'
    · intro b o hb ho
      refine (hs.2 b (Nat.ne_of_lt (Heap.lt_size ho))).trans ?_
      exact (Heap.get?_update_ne _ _ _ _ hb).trans (Heap.get?_push_of_some _ ho)
    · exact (hs.2 x hxs).trans (Heap.get?_update_self _ hx1 rfl)
end
end Tc
namespace Tc
open PySem PySem.Spec PySem.W PyProof.Rows
open Builtin Builtin.ObjectAttr
theorem ld_local {M : Model} {s : Shared} {name : Str} {scope : Scope} {L a : Addr} {cd : Value} {m : Str → Option Value}
    {x : Str} {pos : Pos} {v : Value} {Q : Value → Shared → Prop} {A : Around} {E : Value → Shared → Prop}
    (hn : s.heap.Ns L m) (hv : m x = some v) (h : Q v s) (hk : scope.kind = .function := by rfl)
    (hl : (envOfC name scope L a cd).kindOf x = some .local := by rfl) (hd : (x == ("__debug__" : Str)) = false := by decide) :
    wpAny M A (eval (.Name x pos) (envOfC name scope L a cd)) Q E s :=
  wpAny_Name (wpAny_loadName_local hk hl hn hv h) hd
/-- the two names that such a field has -/
def FieldName (fld : Str) : Prop := fld = "given" ∨ fld = "index"
section
variable {prog : Program} {w : World} {A : Around} {E : Value → Shared → Prop} {R : Result → Shared → Prop}
  {s : Shared} {K : Frag} {C fI : Addr} {B newId initId : String}
  {bmB : List Value} {fld qual : Str} {fd : FuncData} {x t0 : Addr} {v : Value}
/-- behind __init__ -/
structure InitDone (h h' : Heap) (x C dx t1 : Addr) (fld : Str) (v : Value) : Prop where
  keep : ∀ b o, b ≠ x → h.get? b = some o → h'.get? b = some o
  obj : h'.get? x = some { HandSPX.excO C t1 with dict := some dx }
  big : h.objs.size ≤ dx
  dne : dx ≠ x
  ns : h'.Ns1 dx (fun y => if y = fld then some v else none)
theorem init_run (Z : ExK K C fI B newId initId bmB fld) (fn : FieldName fld) (D : InitDef K fI qual fld fd) (X : K.In s.heap)
    (hlim : s.heap.NoLimit) (hx : s.heap.get? x = some (HandSPX.excO C t0)) (hroom : A.depth < recursionLimit)
    {args : Args} (hb : BindsTo s fd args [("self", .ref x), (fld, v)])
    (hq : ∀ h' tk dx, InitDone s.heap h' x C dx t0 fld v → R (.ok (.ret .none)) { s with heap := h', toks := tk }) :
    codeAny (model prog w) A (.call (.ref fI) args) R s := by
  obtain ⟨oc, od, kV, doc, pm, an, cdv, ct, osl, pa, sc, q1, q2, q3, q4, rfl, rfl, ho, hcd⟩ := D.ex
  have two : (fld == ("self" : Str)) = false := by rcases fn with rfl | rfl <;> decide
  refine Att.call_fn (binds := [("self", .ref x), (fld, v)]) X hlim ho hcd hroom hb
    (by rcases fn with rfl | rfl <;> first | rfl | decide | with_unfolding_all rfl) (fun s1 IC => ?_) rfl rfl rfl
  obtain ⟨h1, tk1, rfl⟩ := IC.toInCall.same
  have k : ∀ b o, s.heap.get? b = some o → h1.get? b = some o := IC.toInCall.keep
  have hn := IC.toInCall.ns
  have X1 : K.In h1 := X.keeps k
  have hx1 := k _ _ hx
  show wpAny _ _ (execs _ _) _ _ _
  refine wpAny_execs_cons (plainObj_wpAny_Assign_Attribute ?_)
  refine ld_local (v := v) hn ?_ (ld_local (v := .ref x) hn ?_ ?_ rfl ?_) rfl ?_ ?_
  · rcases fn with rfl | rfl <;> first | rfl | with_unfolding_all rfl | kernel_rfl
  · rcases fn with rfl | rfl <;> first | rfl | with_unfolding_all rfl | kernel_rfl
  · refine set_plain X1 (ox := HandSPX.excO C t0) (od := none) ⟨hx1, rfl, rfl, trivial⟩ Z.sa ?_
    refine osa_first Z X1 hx1 (fun h3 tk3 dx k3 dn dne hx3 hn3 => ?_)
    show wpAny _ _ (execs _ _) _ _ _
    have z : s.heap.objs.size < h1.objs.size := hn.lt
    exact wpAny_execs_nil (hq h3 tk3 dx ⟨fun b o hb e => k3 b o hb (k b o e), hx3,
      Nat.le_of_lt (Nat.lt_of_lt_of_le z dn), dne, hn3⟩)
  · rcases fn with rfl | rfl <;> rfl
  · rcases fn with rfl | rfl <;> rfl
  · rcases fn with rfl | rfl <;> decide

/-- a new exception, its field -/
structure MadeX (h h' : Heap) (e C d : Addr) (fld : Str) (v : Value) : Prop where
  keep : ∀ b o, h.get? b = some o → h'.get? b = some o
  new : h.objs.size ≤ e
  obj : ∃ t1 : Addr, h'.get? e = some { HandSPX.excO C t1 with dict := some d }
  big : h.objs.size ≤ d
  dne : d ≠ e
  ns : h'.Ns1 d (fun y => if y = fld then some v else none)
theorem made_run (Z : ExK K C fI B newId initId bmB fld) (fn : FieldName fld) (D : InitDef K fI qual fld fd) (X : K.In s.heap)
    (hlim : s.heap.NoLimit) (hroom : A.depth + 1 < recursionLimit) {rest : List Value} {kw : List (Str × Value)} (hz : rest.length ≤ sizeLine)
    (hb : ∀ (s : Shared) (y : Addr), BindsTo s fd ⟨.ref y :: rest, kw⟩ [("self", .ref y), (fld, v)])
    (hq : ∀ h' tk e d, MadeX s.heap h' e C d fld v → R (.ok (.ret (.ref e))) { s with heap := h', toks := tk }) :
    codeAny (model prog w) A (.call (.ref C) ⟨rest, kw⟩) R s := by
  obtain ⟨nm, N', qn, bs, bm, hdct, sn, sub, ab, col, dd, k0, k1, k2, k3, k5, hC, hT⟩ := excInit_of X Z.ini
  obtain ⟨hp, g, dr, tk, os⟩ := s
  have k : ∀ b o, hp.get? b = some o → ((hp.push (kdv_tup rest)).push (HandSPX.excO C hp.objs.size)).get? b = some o :=
    fun b o e => Heap.get?_push_of_some _ (Heap.get?_push_of_some _ e)
  have hget : ((hp.push (kdv_tup rest)).push (HandSPX.excO C hp.objs.size)).get? (hp.objs.size + 1) =
      some (HandSPX.excO C hp.objs.size) := by heap_get
  refine callA Z.base hT hC (looks_findIn X Z.iC) (fun self => bind_fn X self Z.tI) hz ?_
  refine init_run (s := ⟨(hp.push (kdv_tup rest)).push (HandSPX.excO C hp.objs.size), g, dr, tk, os⟩) Z fn D
    (X.keeps k) (hlim.keeps k) hget ?_ (hb _ _) ?_
  · have e : (A.under (.builtin "type.__call__" ⟨.ref C :: rest, kw⟩)).depth = A.depth + 1 := L2.make_depth
    omega
  · rintro h' tk' dx ⟨k', hx, dn, dne, hns⟩
    have z : hp.objs.size + 1 + 1 ≤ dx := by
      have q := dn
      rw [Heap.size_push, Heap.size_push] at q
      exact q
    refine ⟨rfl, hq h' tk' (hp.objs.size + 1) dx ⟨fun b o e => ?_, Nat.le_succ _, ⟨_, hx⟩,
      Nat.le_trans (Nat.le_trans (Nat.le_succ _) (Nat.le_succ _)) z, dne, hns⟩⟩
    exact k' b o (Nat.ne_of_lt (Nat.lt_succ_of_lt (Heap.lt_size e))) (k b o e)
end
end Tc
/-! Exceptions as values, tracked: made, asked for their class, their field read. -/
namespace Tc
open PySem PySem.Spec PyProof.Rows L2

/-- at a an exception of the class at C with its dict at d, which holds the field alone -/
structure ExAt (H : Hp) (a C d : Addr) (fld : Str) (v : V) : Prop where
  ob : H a = some (exo a C (some d))
  di : H d = some (exd d [(fld, v)])

section
variable {X : Cx} {pins : List (Addr × Obj)} {σ : L2.St} {H : Hp} {C fI e d : Addr} {B newId initId : String}
  {bmB : List Value} {fld qual : Str} {fd : FuncData} {v : V} {u : Value}

theorem relO_one (rv : RelV v u) (f : Str) : RelO (List.lookup f [(fld, v)]) (if f = fld then some u else none) :=
  relO_put (fs := []) (mA := fun _ => none) rv (fun _ => True.intro) f

theorem made_inv {hp h' : Heap} {g : Array GenState} {dr : Drawn} {tk tk' : Nat} {os : OsState}
    (I : Inv X pins σ H ⟨hp, g, dr, tk, os⟩) (M : MadeX hp h' e C d fld u) (rv : RelV v u) :
    H e = none ∧ H d = none ∧ d ≠ e ∧
      Inv X pins σ (upd (upd H d (exd d [(fld, v)])) e (exo e C (some d))) ⟨h', g, dr, tk', os⟩ := by
  have he : H e = none := I.hok.fresh M.new
  have hd : H d = none := I.hok.fresh M.big
  refine ⟨he, hd, M.dne, ?_⟩
  obtain ⟨t1, hobj⟩ := M.obj
  obtain ⟨G, g1, g2⟩ := restrict h' fun b => decide (b ≠ e)
  have gk : ∀ b, b ≠ e → G.get? b = h'.get? b := fun b hb => g1 b (decide_eq_true hb)
  have ge : G.get? e = none := g2 e (by simp)
  have old : ∀ b o, hp.get? b = some o → G.get? b = some o := by
    intro b o q
    have hb : b ≠ e := Nat.ne_of_lt (Nat.lt_of_lt_of_le (Heap.lt_size q) M.new)
    rw [gk b hb]
    exact M.keep b o q
  have one : ObjOk X.prog X.w (upd H d (exd d [(fld, v)])) G d (exd d [(fld, v)]) :=
    exd_ok (M.ns.at fun o q => (gk d M.dne).trans q) (relO_one rv)
  have J := I.laid (t' := tk') old M.big one
  have up : ∀ b o, G.get? b = some o → h'.get? b = some o := by
    intro b o q
    by_cases hb : b = e
    · rw [hb, ge] at q
      cases q
    · exact (gk b hb).symm.trans q
  have he2 : upd H d (exd d [(fld, v)]) e = none := by
    rw [upd_ne M.dne.symm]
    exact he
  have un : Un X.fs [] (upd H d (exd d [(fld, v)])) (upd (upd H d (exd d [(fld, v)])) e (exo e C (some d))) G h' := {
    keep := fun b o q _ _ _ => up b o q
    slot := fun b o q _ _ _ => ⟨o.slots, up b o q⟩
    free := fun b o q n _ => by
      rw [upd_ne (fun z => by rw [z, ge] at q; cases q)]
      exact n
    there := fun b o q _ => ⟨o, up b o q⟩
    tups := fun b xs q => by
      rw [upd_ne (ne_of_none q he2)]
      exact q
    frzs := fun b o w q => by
      rw [upd_ne (ne_of_none q he2)]
      exact q
    tbls := fun b ps q => ⟨#[], by rw [upd_ne (ne_of_none q he2), q]; simp⟩ }
  refine J.un (t' := tk') un ?_
  intro b o q
  by_cases hb : b = e
  · subst hb
    rw [upd_same] at q
    cases q
    exact exo_ok hobj
  · rw [upd_ne hb] at q
    refine (J.hok b o q).stay (fun c w _ z => up c w z) (fun c z => ?_) (fun c xs z => ?_)
    · rw [upd_ne (ne_of_none z he2)]
      exact z
    · rw [upd_ne (ne_of_none z he2)]
      exact z

/-- X(e) | X(FLD=e): a new exception, its dict -/
def tNewX (C : Addr) (fld : Str) (te : TE) : TE := fun σ H Q => te σ H fun v H1 => ∀ a d, H1 a = none → H1 d = none → d ≠ a →
  Q (.ref a) (upd (upd H1 d (exd d [(fld, v)])) a (exo a C (some d)))
theorem run_newX {s : Shared} {Q : VK} {rest : List Value} {kw : List (Str × Value)} {k : Nat}
    (Z : ExK X.K C fI B newId initId bmB fld) (fn : FieldName fld) (D : InitDef X.K fI qual fld fd)
    (hr : Room k X.A) (hz : rest.length ≤ sizeLine)
    (hb : ∀ (s : Shared) (y : Addr), BindsTo s fd ⟨.ref y :: rest, kw⟩ [("self", .ref y), (fld, u)])
    (I : Inv X pins σ H s) (rv : RelV v u)
    (h : ∀ a d, H a = none → H d = none → d ≠ a → Q (.ref a) (upd (upd H d (exd d [(fld, v)])) a (exo a C (some d)))) :
    wpAny (model X.prog X.w) X.A (call (.ref C) rest kw) (EP X pins σ Q) X.xe s := by
  obtain ⟨hp, g, dr, tk, os⟩ := s
  refine wpAny_call (made_run Z fn D I.kIn I.nolimit (by have := hr.dp; omega) hz hb ?_)
  intro h' tk' e d M
  obtain ⟨he, hd, ne, J⟩ := made_inv (tk' := tk') I M rv
  exact ⟨.ref e, _, J, rfl, h e d he hd ne⟩
variable {x : Str} {p pos : Pos} {ee : Expr} {te : TE} {k : Nat}
theorem pe_newX (Z : ExK X.K C fI B newId initId bmB fld) (fn : FieldName fld) (D : InitDef X.K fI qual fld fd)
    (hr : Room k X.A) (hb : ∀ (u : Value) (s : Shared) (y : Addr), BindsTo s fd ⟨[.ref y, u], []⟩ [("self", .ref y), (fld, u)])
    (hg : Gl X x) (hm : X.mg x = some (.ref C)) (he : PE X ee te)
    (hs : starEach [ee] X.env = (false, eval ee X.env) :: starEach [] X.env := by rfl)
    (hdb : (x == ("__debug__" : Str)) = false := by decide) :
    PE X (.Call (.Name x p) [ee] [] pos) (tNewX C fld te) := by
  constructor
  intro pins s σ H Q I h
  refine wpAny_Call_Name_kw (ld_glob I hg hm ?_ hdb)
  refine PySem.W.callWith_K (h₀ := X.base) I.ok.mod.kin Z.kp ?_ hs (by rfl)
  rw [hs]
  show wpAny _ _ (spliced ((false, eval ee X.env) :: backTo pos (starEach [] X.env))) _ _ s
  refine Calls.spliced_cons (thn (he.run pins s σ H _ I h) ?_)
  rintro u s1 ⟨v, H1, I1, r1, q1⟩
  refine Calls.spliced_nil ⟨I1.kIn, ?_⟩
  exact run_newX (kw := []) Z fn D hr (by rw [sizeLine_eq]; show 1 ≤ 16777216; decide) (fun s y => hb u s y) I1 r1 q1
theorem pe_newXk {kpos : Pos} (Z : ExK X.K C fI B newId initId bmB fld) (fn : FieldName fld) (D : InitDef X.K fI qual fld fd)
    (hr : Room k X.A) (hb : ∀ (u : Value) (s : Shared) (y : Addr), BindsTo s fd ⟨[.ref y], [(fld, u)]⟩ [("self", .ref y), (fld, u)])
    (hg : Gl X x) (hm : X.mg x = some (.ref C)) (he : PE X ee te)
    (hall : (backToKw pos (keywordEach [⟨some fld, ee, kpos⟩] X.env)).all (·.1.isSome) = true := by rfl)
    (hks : (backToKw pos (keywordEach [⟨some fld, ee, kpos⟩] X.env)).filterMap (·.1) = [fld] := by rfl)
    (hpl : ((backTo pos (starEach [] X.env)).any (·.1) || (backToKw pos (keywordEach [⟨some fld, ee, kpos⟩] X.env)).any (·.1.isNone)) = false := by rfl)
    (hdb : (x == ("__debug__" : Str)) = false := by decide) :
    PE X (.Call (.Name x p) [] [⟨some fld, ee, kpos⟩] pos) (tNewX C fld te) := by
  constructor
  intro pins s σ H Q I h
  refine wpAny_Call_Name_kw (ld_glob I hg hm ?_ hdb)
  have kws : PK X [⟨some fld, ee, kpos⟩] (tCons te tNil) := pk_cons he pk_nil
  refine PySem.W.callWith_KW0 (h₀ := X.base) I.ok.mod.kin Z.kp hall
    (thn (kws.run pos pins s σ H (fun zs H1 => match zs with
      | [v] => ∀ a d, H1 a = none → H1 d = none → d ≠ a → Q (.ref a) (upd (upd H1 d (exd d [(fld, v)])) a (exo a C (some d)))
      | _ => False) I ?_) ?_) hpl
  · show te σ H _
    exact h
  · rintro ws s1 ⟨zs, H1, I1, rz, q1⟩
    match zs, q1 with
    | [v], q1 =>
    obtain ⟨u, rfl, ru⟩ := vals1 rz
    refine ⟨I1.kIn, ?_⟩
    rw [hks]
    exact run_newX (rest := []) Z fn D hr (by rw [sizeLine_eq]; decide) (fun s y => hb u s y) I1 ru q1
/-- what isinstance and a field's read ask of an exception's class -/
structure ExA (K : PySem.W.Frag) (C : Addr) : Prop where
  ga : PySem.W.findIn K (.ref C) "__getattribute__" = some (some (.builtin "BaseException.__getattribute__"))
  gg : PySem.W.findIn K (.ref C) "__getattr__" = some none
  ex : PySem.W.subIn K (.ref C) (.type "BaseException") = some true
  own : PySem.W.hasDictIn K C = true
  kc : PySem.W.findIn K (.ref C) "__class__" = some (some (.builtin "object.__class__"))
  sn : PySem.W.specialIn K (.builtin "object.__class__") "__get__" = some (some (.builtin "getset_descriptor.__get__"))
  tk : PySem.W.takesIn K (.builtin "object.__class__") = some true
  mo : PySem.W.mroIn K C (.type "object") = some true
theorem inst_ex {s : Shared} {C a : Addr} {od : Option Addr} (I : Inv X pins σ H s) (h : H a = some (exo a C od))
    (hd : ∀ d, od = some d → ∃ fs, H d = some (exd d fs)) : ∃ oe oo, PySem.W.InstAt s.heap a oe C oo ∧
      (∀ d, od = some d → ∃ o, oo = some o ∧ s.heap.get? d = some o) := by
  obtain ⟨t1, ho⟩ := exo_at I.hok h
  cases od with
  | none => exact ⟨_, none, ⟨ho, rfl, rfl, trivial⟩, fun d e => nomatch e⟩
  | some d =>
    obtain ⟨fs, hf⟩ := hd d rfl
    obtain ⟨mA, hns, _⟩ := exd_at I.hok hf
    obtain ⟨o, ho2, _⟩ := lookIn_ns hns
    exact ⟨_, some o, ⟨ho, rfl, rfl, ho2⟩, fun d' e => by cases e; exact ⟨o, rfl, ho2⟩⟩
/-- isinstance(e, c), e a tracked exception -/
def rIsX (K : PySem.W.Frag) : List V → Hp → VK → Prop := fun xs H Q => ∃ (a C : Addr) (od : Option Addr) (c : V) (cv : Value) (b : Bool),
  xs = [.ref a, c] ∧ H a = some (exo a C od) ∧ (∀ d, od = some d → ∃ fs, H d = some (exd d fs)) ∧ ExA K C ∧ ClsV c cv ∧
  PySem.W.kitOne K (.ref C) cv = some b ∧ Q (.bl b) H
theorem call_isX : CallR X (.builtin "isinstance") (rIsX X.K) := by
  intro pins s σ H xs us Q I r h
  obtain ⟨a, C, od, c, cv, b, rfl, ha, hd, T, hc, e, q⟩ := h
  cases r with
  | cons rx rr =>
    cases rr with
    | cons rt rr =>
      cases rr
      cases rx
      have ec := hc.eq rt
      subst ec
      obtain ⟨oe, oo, J, _⟩ := inst_ex I ha hd
      have cl : (PySem.W.clsIn X.K C).isSome = true := by
        obtain ⟨cd, hcd, _⟩ := PySem.W.any_some T.own
        rw [hcd]
        rfl
      refine PySem.W.kia_one (PySem.W.kitx_exc cl T.ga T.gg T.ex T.kc T.sn T.tk T.mo) I.kIn J e (fun z => nomatch z) ?_
      intro tk
      exact ⟨.bl b, H, I.kept (t' := tk) fun _ _ z => z, rfl, q⟩
/-- e.FLD, e a tracked exception -/
def tXfld (K : PySem.W.Frag) (fld : Str) (te : TE) : TE := fun σ H Q => te σ H fun x H1 => ∃ (a C d : Addr) (fs : List (Str × V)) (v : V),
  x = .ref a ∧ H1 a = some (exo a C (some d)) ∧ H1 d = some (exd d fs) ∧ ExA K C ∧ PySem.W.findIn K (.ref C) fld = some none ∧
  fs.lookup fld = some v ∧ Q v H1
theorem pe_xfld {n : Str} (he : PE X ee te) (hb : attributeBase ee n X.env (eval ee X.env) = eval ee X.env := by rfl) :
    PE X (.Attribute ee n pos) (tXfld X.K n te) := by
  constructor
  intro pins s σ H Q I h
  refine attr_of hb (thn (he.run pins s σ H _ I h) ?_)
  rintro u s1 ⟨x, H1, I1, rx, a, C, d, fs, v, rfl, ha, hd, T, hno, hl, q⟩
  obtain rfl : u = Value.ref a := rx
  obtain ⟨oe, oo, J, hoo⟩ := inst_ex I1 ha (fun d' e => by cases e; exact ⟨fs, hd⟩)
  obtain ⟨o, rfl, ho⟩ := hoo d rfl
  obtain ⟨mA, hns, hr⟩ := exd_at I1.hok hd
  obtain ⟨o2, ho2, hlk⟩ := lookIn_ns hns
  rw [ho] at ho2
  cases ho2
  obtain ⟨w, hw, rw'⟩ := RelO.some_of (v := v) (o := mA n) (by rw [← hl]; exact hr n)
  refine HandSPX.exc_get I1.kIn J T.ga T.gg T.ex (PySem.W.findObj_own T.own hno rfl (by rw [hlk, hw])) (handed_of rw') ?_
  exact ⟨v, H1, I1.tok _, rw', q⟩
end
end Tc
namespace Tc
open PySem PySem.Spec PyProof.Rows L2
section
variable {X : Cx} {C : Addr} {B newId initId : String} {bmB : List Value} {x : Str} {p pos : Pos}
/-- X(), an own exception class without an own __init__ -/
def tNewX0 (C : Addr) : TE := fun _ H Q => ∀ a, H a = none → Q (.ref a) (upd H a (exo a C none))
theorem pe_newX0 (F : ExcBaseFacts B newId initId bmB) (q : PySem.W.excIn X.K C bmB newId = true)
    (gC : X.mg x = some (.ref C)) (kC : PySem.W.keepIn X.K (.ref C) = true) (hg : Gl X x)
    (hdb : (x == ("__debug__" : Str)) = false := by decide) :
    PE X (.Call (.Name x p) [] [] pos) (tNewX0 C) := by
  constructor
  intro pins s σ H Q I h
  refine wpAny_Call_Name_kw (ld_glob I hg gC ?_ hdb)
  refine PySem.W.callWith_K0 I.kIn kC ?_
  obtain ⟨bm, N, nm, qn, bs, hdct, sn, sub, ab, col, dd, k0, k1, k2, k3, k5, mN, hC, hN, hni, T⟩ := exc_obj I.kIn q
  refine wpAny_call_exc_subT F T hC hN hni ?_ (by show 0 ≤ sizeLine; omega)
  intro h' a hm
  have hn : H a = none := I.hok.gone hm.new
  obtain ⟨t, ht, _, _⟩ := hm.there
  exact ⟨.ref a, _, I.laidN hm.keeps hm.new hn (exo_ok ht), rfl, h a hn⟩
end
end Tc
/-! The head's facts by one Bool and the functions by their texts; what makes a new exception. -/
namespace Tc
open PySem PySem.Spec PyProof.Rows L2

section
variable {F : PySem.W.Frag → Bool} {fn : List He.FnD} {K : PySem.W.Frag}
theorem SaysM.fact (c : SaysM F fn K) : F K = true :=
  (He.ba (congrArg (fun z : He.Al => z.1) c)).1
/-- the def d of the text stands, and is called so -/
theorem SaysM.fun_ (c : SaysM F fn K) (i : Nat) {st : Stmt} {p : Str × Option Str} {x q : Str}
    (h : fn[i]? = some ⟨p, x, q, defArgs st, defBody st, defScope st⟩ := by rfl) :
    ∃ fd, Fun K x q st (He.fAd K p) fd := by
  have c1 := (He.ba (show (F K && fn.all fun d => PySem.W.keepIn K (.ref (He.fAd K d.at_)) && (He.Fa.code d.at_ d.qual).ok K) = true from
    congrArg (fun z : He.Al => z.1) c)).2
  have c2 := List.all_eq_true.mp c1 _ (List.mem_of_getElem? h)
  obtain ⟨kp, cd⟩ := He.ba c2
  have e : fn.map (fun d => He.fnObs K d.at_) = fn.map He.FnD.val := congrArg (fun z : He.Al => z.2) c
  have e2 : (fn.map fun d => He.fnObs K d.at_)[i]? = (fn.map He.FnD.val)[i]? := by rw [e]
  rw [List.getElem?_map, List.getElem?_map, h] at e2
  obtain ⟨oc, od, osl, kV, doc, pm, an, cdv, ct, lk, hc⟩ := He.fn_ok (Option.some.inj e2) cd
  exact ⟨_, fun_mk lk hc kp⟩
end

/-- a statement, then the rest, a word between them -/
def tMid (t u : TS) : TS := fun D σ H => ∃ M : L2.St → Hp → Prop, t { D with nx := M } σ H ∧ ∀ σ' H', M σ' H' → u D σ' H'
theorem pss_mid {X : Cx} {st : Stmt} {rest : List Stmt} {t u : TS} (h1 : PS X st t) (h2 : PSs X rest u) : PSs X (st :: rest) (tMid t u) := by
  constructor
  intro pins s σ H D I h
  obtain ⟨M, hm, hu⟩ := h
  refine wpAny_execs_cons (thn (h1.run pins s σ H { D with nx := M } I hm) ?_)
  intro f s1 q
  cases f with
  | next =>
    obtain ⟨σ', H', I', q⟩ := q
    exact h2.run pins s1 σ' H' D I' (hu σ' H' q)
  | ret v | brk | cont => exact q

/-- a def by its name: what it keeps, how it is called -/
structure Call (P : Program) (w : World) (K : PySem.W.Frag) (mg : Str → Option Value) (base : Heap) (CX : CXT)
    (k : Nat) (x : Str) (ps : List Str) (sp : Sp) : Prop where
  ex : ∃ f fd, FnG P w K mg base CX k f fd ps sp ∧ mg x = some (.ref f) ∧ PySem.W.keepIn K (.ref f) = true ∧ Binds K fd ps []
section
variable {X : Cx} {CX : CXT} {k : Nat} {ps : List Str} {sp : Sp} {E : XK} {x : Str} {p pos : Pos} {e : Expr} {es : List Expr} {t : TA}
theorem pe_do (F : Call X.prog X.w X.K X.mg X.base CX k x ps sp) (hr : Room k X.A)
    (hgd : X.A.guards = some []) (hg : Gl X x) (hx : Passes CX X E) (ha : PA X (e :: es) t)
    (hdb : (x == ("__debug__" : Str)) = false := by decide)
    (he : starEach (e :: es) X.env = (false, eval e X.env) :: starEach es X.env := by rfl)
    (hpl : (backTo pos (starEach es X.env)).any (·.1) = false := by rfl) :
    PE X (.Call (.Name x p) (e :: es) [] pos) (tCall sp [] E t) := by
  obtain ⟨f, fd, G, hm, hk, hb⟩ := F.ex
  exact pe_callG G hr hgd hg hm hk hb .nil hx ha hdb he hpl
end

/-- what a class like «class X(BASE): def __init__(self, FLD): self.FLD = FLD» needs to be made -/
structure NewAble (K : PySem.W.Frag) (mg : Str → Option Value) (x fld : Str) (C : Addr) : Prop where
  ex : ∃ (fI : Addr) (B newId initId : String) (bmB : List Value) (qual : Str) (fd : FuncData),
    ExK K C fI B newId initId bmB fld ∧ FieldName fld ∧ InitDef K fI qual fld fd ∧
    (∀ (u : Value) (s : Shared) (y : Addr), BindsTo s fd ⟨[.ref y, u], []⟩ [("self", .ref y), (fld, u)]) ∧
    ∀ (u : Value) (s : Shared) (y : Addr), BindsTo s fd ⟨[.ref y], [(fld, u)]⟩ [("self", .ref y), (fld, u)]
  gm : mg x = some (.ref C)
section
variable {X : Cx} {C : Addr} {x fld : Str} {p pos : Pos} {ee : Expr} {te : TE} {k : Nat}
theorem pe_new (N : NewAble X.K X.mg x fld C) (hr : Room k X.A) (hg : Gl X x) (he : PE X ee te)
    (hs : starEach [ee] X.env = (false, eval ee X.env) :: starEach [] X.env := by rfl)
    (hdb : (x == ("__debug__" : Str)) = false := by decide) :
    PE X (.Call (.Name x p) [ee] [] pos) (tNewX C fld te) := by
  obtain ⟨fI, B, newId, initId, bmB, qual, fd, Z, fn, D, b1, b2⟩ := N.ex
  exact pe_newX Z fn D hr b1 hg N.gm he hs hdb
theorem pe_newk {kpos : Pos} (N : NewAble X.K X.mg x fld C) (hr : Room k X.A) (hg : Gl X x) (he : PE X ee te)
    (hall : (backToKw pos (keywordEach [⟨some fld, ee, kpos⟩] X.env)).all (·.1.isSome) = true := by rfl)
    (hks : (backToKw pos (keywordEach [⟨some fld, ee, kpos⟩] X.env)).filterMap (·.1) = [fld] := by rfl)
    (hpl : ((backTo pos (starEach [] X.env)).any (·.1) || (backToKw pos (keywordEach [⟨some fld, ee, kpos⟩] X.env)).any (·.1.isNone)) = false := by rfl)
    (hdb : (x == ("__debug__" : Str)) = false := by decide) :
    PE X (.Call (.Name x p) [] [⟨some fld, ee, kpos⟩] pos) (tNewX C fld te) := by
  obtain ⟨fI, B, newId, initId, bmB, qual, fd, Z, fn, D, b1, b2⟩ := N.ex
  exact pe_newXk Z fn D hr b2 hg N.gm he hall hks hpl hdb
end

/-! ### the facts of an exception class, told by a Bool -/
theorem Kin.base : ∀ k : Kin, ExcBaseFacts k.B k.new k.ini k.mro
  | .v => PySem.F.excBase_ValueError
  | .l => PySem.F.excBase_LookupError
  | .a => PySem.F.excBase_ArithmeticError
theorem Kin.store : ∀ k : Kin, StoreFacts k.B k.mro "object.__setattr__" "object"
  | .v => PySem.F.store_ValueError
  | .l => PySem.F.store_LookupError
  | .a => PySem.F.store_ArithmeticError
theorem exkB_ok {K : PySem.W.Frag} {k : Kin} {x fld : Str} (h : exkB K k x fld = true) :
    ExK K (He.ga K x) (He.ma K (He.ga K x) "__init__") k.B k.new k.ini k.mro fld := by
  obtain ⟨h1, h⟩ := He.ba h
  obtain ⟨h2, h⟩ := He.ba h
  obtain ⟨h3, h⟩ := He.ba h
  obtain ⟨h4, h⟩ := He.ba h
  obtain ⟨h5, h⟩ := He.ba h
  obtain ⟨h6, h⟩ := He.ba h
  obtain ⟨h7, h⟩ := He.ba h
  obtain ⟨h8, h9⟩ := He.ba h
  exact ⟨k.base, k.store, h1, h2, h3, He.eqO_ok h4, He.eqO_ok h5, He.eqO_ok h6, He.eqO_ok h7, of_decide_eq_true h8, h9⟩
theorem exaB_ok {K : PySem.W.Frag} {x : Str} (h : exaB K x = true) (s : exsB K = true) : ExA K (He.ga K x) := by
  obtain ⟨h1, h⟩ := He.ba h
  obtain ⟨h2, h⟩ := He.ba h
  obtain ⟨h3, h⟩ := He.ba h
  obtain ⟨h4, h⟩ := He.ba h
  obtain ⟨h5, h6⟩ := He.ba h
  obtain ⟨s1, s2⟩ := He.ba s
  exact ⟨He.eqO_ok h1, He.eqO_ok h2, of_decide_eq_true h3, h4, He.eqO_ok h5, He.eqO_ok s1, of_decide_eq_true s2, of_decide_eq_true h6⟩

/-- its __init__, of the text st -/
theorem init_of {K : PySem.W.Frag} {f : Addr} {fd : FuncData} {qual fld : Str} {st : Stmt} {q1 q2 q3 q4 : Pos}
    (F : Fun K "__init__" qual st f fd)
    (hb : defBody st = [.Assign [.Attribute (.Name "self" q1) fld q2] (.Name fld q3) q4])
    (hs : defScope st = { kind := .function, names := [("self", .local), (fld, .local)], isGenerator := false, isCoroutine := false, more := [] }) :
    InitDef K f qual fld fd := by
  obtain ⟨oc, od, kV, doc, pm, an, cdv, ct, osl, rfl, lk, hcd⟩ := F.ex
  exact ⟨oc, od, kV, doc, pm, an, cdv, ct, osl, defArgs st, _, q1, q2, q3, q4, by rw [hb, hs], rfl, lk, hcd⟩
end Tc
namespace K01
open PySem PySem.Spec PyProof.Rows L2 Tc
/-- what is known of the module's names: built-ins that are called -/
structure Bl (mg : Str → Option Value) : Prop where
  len : mg "len" = none
  int : mg "int" = none
  abs : mg "abs" = none
  divmod : mg "divmod" = none
  range : mg "range" = none
  isinstance : mg "isinstance" = none
  repr : mg "repr" = none
  enumerate : mg "enumerate" = none
/-- a jar stands at a -/
def Jar (H : Hp) (a : Addr) : Prop := ∃ d x c : Int, H a = some (.lst [.int d, .int x, .int c]) ∧ 0 ≤ d ∧ 0 ≤ x
/-- all but what stands at a is as it was -/
def But (a : Addr) (H H' : Hp) : Prop := ∀ b o, H b = some o → b ≠ a → H' b = some o
theorem mem_of_cut {ns : List Int} {lo hi : Option Int} {i : Nat} {y : V} (h : (cutV (ns.map V.int) lo hi)[i]? = some y) : ∃ z, y = V.int z := by
  have m : y ∈ cutV (ns.map V.int) lo hi := List.mem_of_getElem? h
  have m2 := List.mem_of_mem_drop (List.mem_of_mem_take m)
  obtain ⟨z, _, e⟩ := List.mem_map.mp m2
  exact ⟨z, e.symm⟩
theorem emod_ge {a b : Int} (h : 0 < b) : 0 ≤ a % b := Int.emod_nonneg a (by omega)
section
variable {P : Program} {w : World} {K : PySem.W.Frag} {mg : Str → Option Value} {base : Heap}
theorem scJar : FnScope ["_law_script", "_law_k", "_law_seed", "_law_cell", "_law_digits"] ["_law_script", "_law_k"] (defScope s_jar) :=
  ⟨rfl, rfl, rfl, by decide +kernel, rfl, by decide +kernel, by decide +kernel⟩
theorem gJar_int : (defScope s_jar).names.lookup ("int" : Str) = some .globalImplicit := by decide +kernel
theorem gJar_len : (defScope s_jar).names.lookup ("len" : Str) = some .globalImplicit := by decide +kernel
theorem gJar_abs : (defScope s_jar).names.lookup ("abs" : Str) = some .globalImplicit := by decide +kernel
/-- the jar of a script -/
def spJar (K : PySem.W.Frag) : Sp := fun vs H Q _ => ∃ (a : Addr) (ns : List Int) (k : Nat), vs = [.ref a, .int k] ∧ k < 2 ∧ SqL K H a (ns.map V.int) ∧ ns.length ≤ 63 ∧
  ∀ (H' : Hp) (p : Addr), H p = none → Same H H' → Jar H' p → Q (.ref p) H'
theorem ok_jar {f : Addr} {fd : FuncData} (F : Fun K "_law_jar" "_law_jar" s_jar f fd) (T : Bl mg) :
    FnOk P w K mg base CX0 1 f fd ["_law_script", "_law_k"] (spJar K) := by
  refine F.ok scJar (fun vs H Q E h => ?_) (fun cdv A outer s H vs Q E hr h => ?_)
  · obtain ⟨a, ns, k, rfl, _⟩ := h
    rfl
  · obtain ⟨a, ns, k, rfl, hk, hS, hlen, hQ⟩ := h
    refine ⟨_, pss_cons (ps_set (i := 2) scJar.nd rfl (.inl rfl) (pe_op op_add (pe_op op_mul pe_int (pv 1)) pe_int))
      (pss_cons (ps_for PassesOwn.never rfl (pi_list (pe_slice sl_list (pv 0) po_none (po_some pe_int))) (pg_name (i := 3) scJar.nd rfl (.inl rfl))
        (pss_one (ps_set (i := 2) scJar.nd rfl (.inl rfl) (pe_op op_mod (pe_callTy call_int1 gJar_int T.int (by decide +kernel)
          (pa_cons (pe_op op_add (pe_op op_mul (pv 2) pe_int) (pe_callTy call_int1 gJar_int T.int (by decide +kernel) (pa_cons (pv 3) pa_nil))) pa_nil)) pe_int))))
      (pss_mid (ps_set (i := 3) scJar.nd rfl (.inl rfl) (pe_ifExp (pt_cmpR op_lt (pv 1) (pe_callB call_len gJar_len T.len (by decide +kernel) (pa_cons (pv 0) pa_nil)) (nomark _))
        (pe_callTy call_int1 gJar_int T.int (by decide +kernel) (pa_cons (pe_ix ix_list (pv 0) (pv 1) (fun _ _ => rfl)) pa_nil)) (pv 2)))
      (pss_mid (ps_set (i := 4) scJar.nd rfl (.inl rfl) (pe_ifExp (PW.pt (pw_or (pt_cmpR op_lt (pv 3) pe_int (nomark _)) (pw_or1 (pt_cmpR op_ge (pv 3) (pe_op op_pow pe_int pe_int) (nomark _)))))
        (pe_callB call_abs gJar_abs T.abs (by decide +kernel) (pa_cons (pv 3) pa_nil)) pe_int))
      (pss_one (ps_ret (pe_lst (pa_cons (pv 4) (pa_cons (pe_op op_mod (pe_callTy call_int1 gJar_int T.int (by decide +kernel)
        (pa_cons (pe_op op_add (pe_op op_add (pv 2) (pe_op op_mul (pv 3) pe_int)) pe_int) pa_nil)) pe_int) (pa_cons pe_int pa_nil))))))))), ?_⟩
    -- seed = 90173 * k + 211
    refine ⟨_, rfl, _, _, rfl, rfl, .inl ⟨by decide, by decide⟩, _, _, rfl, rfl, ?_⟩
    -- for cell in script[:12]
    refine ⟨_, rfl, _, rfl, a, _, rfl, hS, fun p hp => ?_⟩
    have s0 : Same H (upd H p (.lst (cutV (ns.map V.int) none (some 12)))) := fun b o e => by
      rw [upd_ne (ne_of_none e hp)]
      exact e
    refine ⟨p, rfl, ⟨_, .inl (.inl upd_same)⟩, for_list (K := K) (a := p) (xs := cutV (ns.map V.int) none (some 12))
      (fun _ σ H2 => ∃ (seed : Int) (v : Option V), σ = [some (.ref a), some (.int k), some (.int seed), v, none] ∧
        Same (upd H p (.lst (cutV (ns.map V.int) none (some 12)))) H2 ∧ 0 ≤ seed)
      ⟨_, none, rfl, Same.refl _, by omega⟩ (fun _ _ _ _ ⟨_, _, _, s2, _⟩ => .inl (.inl (s2 _ _ upd_same))) ?_ ?_⟩
    · rintro i y σ H2 hi ⟨seed, v, rfl, s2, h0⟩
      obtain ⟨z, rfl⟩ := mem_of_cut hi
      refine ⟨_, rfl, _, _, rfl, rfl, .inr ⟨by decide, by decide⟩, _, rfl, .inl ⟨_, rfl, _, _, rfl, rfl, .inl ⟨_, rfl, _, _, rfl, rfl, ?_, ?_⟩⟩⟩
      · show (0 : Int) < 2147483587
        decide
      · exact ⟨_, _, rfl, s2, emod_ge (by decide)⟩
    · rintro σ H2 ⟨seed, v, rfl, s2, h0⟩
      have s3 : Same H H2 := s0.trans s2
      -- cell = int(script[k]) if k < len(script) else seed
      refine ⟨fun σ' H' => H' = H2 ∧ ∃ z : Int, σ' = [some (.ref a), some (.int k), some (.int seed), some (.int z), none], ?_, ?_⟩
      · refine ⟨_, rfl, _, rfl, _, _, rfl, .inl ⟨_, s3.seq hS, rfl⟩, _, _, rfl, rfl, _, rfl, ?_⟩
        refine ite2 (fun hc => ?_) (fun _ => ⟨_, rfl, rfl, _, rfl⟩)
        rw [List.length_map] at hc
        have hk2 : k < ns.length := by have := of_decide_eq_true hc; omega
        have hat : atI (ns.map V.int) (k : Int) = some (V.int ns[k]) := atI_nat (by simp [hk2])
        exact ⟨_, rfl, _, rfl, a, _, _, _, rfl, rfl, s3.seq hS, hat, .inl ⟨_, rfl, rfl, _, rfl⟩⟩
      rintro σ' H' ⟨rfl, z, rfl⟩
      -- digits = abs(cell) if cell < 0 or cell >= 10 ** 18 else 0
      refine ⟨fun σ' H3 => H3 = H' ∧ ∃ d : Int, 0 ≤ d ∧ σ' = [some (.ref a), some (.int k), some (.int seed), some (.int z), some (.int d)], ?_, ?_⟩
      · have absd : ∀ z : Int, 0 ≤ (if z < 0 then -z else z) := fun z => by split <;> omega
        refine ⟨_, rfl, _, _, rfl, rfl, _, rfl, ?_⟩
        refine ite2 (fun _ => ?_) (fun _ => ?_)
        · exact ⟨_, rfl, _, rfl, rfl, _, absd _, rfl⟩
        · refine ⟨_, rfl, _, _, rfl, rfl, ⟨by decide, by decide, by decide⟩, _, _, rfl, rfl, _, rfl, ?_⟩
          refine ite2 (fun _ => ?_) (fun _ => ?_)
          · exact ⟨_, rfl, _, rfl, rfl, _, absd _, rfl⟩
          · exact ⟨rfl, 0, by decide, rfl⟩
      rintro σ' H3 ⟨rfl, d, hd, rfl⟩
      -- return [digits, int(seed + cell * 39373 + 17) % 2147483629, 0]
      refine ⟨_, rfl, _, rfl, _, rfl, _, _, rfl, rfl, .inr ⟨by decide, by decide⟩, _, _, rfl, rfl, _, _, rfl, rfl, .inl ⟨_, rfl, _, _, rfl, rfl, ?_, ?_⟩⟩
      · show (0 : Int) < 2147483629
        decide
      · refine ⟨by show 3 ≤ sizeLine; decide, fun p2 hp2 => ?_⟩
        refine hQ _ p2 (s3.free hp2) (fun b o e => ?_) ⟨_, _, _, upd_same, hd, emod_ge (by decide)⟩
        rw [upd_ne (ne_of_none (s3 b o e) hp2)]
        exact s3 b o e
end
end K01
namespace K01
open PySem PySem.Spec PyProof.Rows L2 Tc
theorem But.trans {a : Addr} {H H1 H2 : Hp} (x : But a H H1) (y : But a H1 H2) : But a H H2 := fun b o e n => y b o (x b o e n) n
theorem But.refl (a : Addr) (H : Hp) : But a H H := fun _ _ e _ => e
theorem But.put {a : Addr} {H H1 : Hp} {o : HO} (x : But a H H1) : But a H (upd H1 a o) := fun b u e n => by
  rw [upd_ne n]
  exact x b u e n
theorem But.new {a p : Addr} {H H1 : Hp} {o u : HO} (x : But a H H1) (ha : H1 a = some u) (h : H1 p = none) : But a H (upd H1 p o) := fun b u e n => by
  rw [upd_ne (ne_of_none (x b u e n) h)]
  exact x b u e n
theorem But.same {a : Addr} {H H1 H2 : Hp} (x : But a H H1) (y : Same H1 H2) : But a H H2 := fun b u e n => y b u (x b u e n)
theorem But.free {a p : Addr} {H H1 : Hp} {o : HO} (x : But a H H1) (ha : H a = some o) (hp : H1 p = none) (h1 : ∃ u, H1 a = some u) : H p = none := by
  cases q : H p with
  | none => rfl
  | some u =>
    by_cases e : p = a
    · subst e
      obtain ⟨u', hu⟩ := h1
      rw [hu] at hp
      cases hp
    · rw [x p u q e] at hp
      cases hp
section
variable {P : Program} {w : World} {K : PySem.W.Frag} {mg : Str → Option Value} {base : Heap}
theorem scDraw : FnScope ["_law_jar_here", "_law_size", "_law_seed", "_law_by", "_law_digit"] ["_law_jar_here", "_law_size"] (defScope s_draw) :=
  ⟨rfl, rfl, rfl, by decide +kernel, rfl, by decide +kernel, by decide +kernel⟩
theorem gDraw_int : (defScope s_draw).names.lookup ("int" : Str) = some .globalImplicit := by decide +kernel
theorem gDraw_divmod : (defScope s_draw).names.lookup ("divmod" : Str) = some .globalImplicit := by decide +kernel
def spDraw : Sp := fun vs H Q _ => ∃ (a : Addr) (n : Int), vs = [.ref a, .int n] ∧ Jar H a ∧ 0 < n ∧ n < 1073741824 ∧
  ∀ (r : Int) (H' : Hp), 0 ≤ r → r < n → Jar H' a → But a H H' → Q (.int r) H'
theorem ok_draw {f : Addr} {fd : FuncData} (F : Fun K "_law_draw" "_law_draw" s_draw f fd) (T : Bl mg) :
    FnOk P w K mg base CX0 1 f fd ["_law_jar_here", "_law_size"] spDraw := by
  refine F.ok scDraw (fun vs H Q E h => ?_) (fun cdv A outer s H vs Q E hr h => ?_)
  · obtain ⟨a, n, rfl, _⟩ := h
    rfl
  · obtain ⟨a, n, rfl, ⟨d, x, c, ha, hd, hx⟩, hn, hn2, hQ⟩ := h
    refine ⟨_, pss_cons (ps_par (by rfl) scDraw.nd (i := 2) (j := 3) rfl rfl (by decide) rfl rfl
        (pa_cons (pe_ix ix_list (pv 0) pe_int (fun _ _ => rfl)) (pa_cons (pe_op op_add (pe_op op_mod (pe_callTy call_int1 gDraw_int T.int (by decide +kernel)
          (pa_cons (pe_ix ix_list (pv 0) pe_int (fun _ _ => rfl)) pa_nil)) pe_int) pe_int) pa_nil)) (by rfl))
      (pss_cons (ps_asg (pe_op op_add (pe_ix ix_list (pv 0) pe_int (fun _ _ => rfl)) pe_int) (pg_sub (pv 0) pe_int set_list))
      (pss_cons (ps_asg (pe_op op_mod (pe_callTy call_int1 gDraw_int T.int (by decide +kernel) (pa_cons (pe_op op_add (pe_op op_add (pe_op op_mul (pv 2) (pv 3))
          (pe_op op_mul pe_int (pe_ix ix_list (pv 0) pe_int (fun _ _ => rfl)))) pe_int) pa_nil)) pe_int) (pg_sub (pv 0) pe_int set_list))
      (pss_cons (ps_if (pt_cmpR op_gt (pe_ix ix_list (pv 0) pe_int (fun _ _ => rfl)) pe_int (nomark _))
        (pss_cons (ps_asg (pe_callB call_divmod gDraw_divmod T.divmod (by decide +kernel) (pa_cons (pe_ix ix_list (pv 0) pe_int (fun _ _ => rfl)) (pa_cons (pv 1) pa_nil)))
            (pg_tup (by rfl) (pgs_cons (pg_sub (pv 0) pe_int set_list) (pgs_cons (pg_name (i := 4) scDraw.nd rfl (.inl rfl)) pgs_nil))))
          (pss_one (ps_ret (pv 4)))) pss_nil)
      (pss_one (ps_ret (pe_op op_mod (pe_callTy call_int1 gDraw_int T.int (by decide +kernel) (pa_cons (pe_op op_fdiv (pe_ix ix_list (pv 0) pe_int (fun _ _ => rfl)) pe_int) pa_nil)) (pv 1))))))), ?_⟩
    have hS : SqL K H a [.int d, .int x, .int c] := .inl (.inl ha)
    -- seed, by = jar[1], int(jar[1]) % 40009 + 20021
    refine ⟨_, rfl, a, _, _, _, rfl, rfl, hS, rfl, _, rfl, a, _, _, _, rfl, rfl, hS, rfl, .inl ⟨_, rfl, _, _, rfl, rfl, ?_, _, _, rfl, rfl, _, _, rfl, ?_⟩⟩
    · show (0 : Int) < 40009
      decide
    have m0 : 0 ≤ x % 40009 := emod_ge (by decide)
    have m1 : x % 40009 < 40009 := Int.emod_lt_of_pos _ (by decide)
    -- jar[2] = jar[2] + 1
    refine ⟨_, rfl, a, _, _, _, rfl, rfl, hS, rfl, _, _, rfl, rfl, _, rfl, a, _, _, 2, rfl, rfl, ha, rfl, ?_⟩
    -- jar[1] = ..
    have hS1 : SqL K (upd H a (.lst [.int d, .int x, .int (c + 1)])) a [.int d, .int x, .int (c + 1)] := .inl (.inl upd_same)
    refine ⟨_, rfl, _, rfl, _, _, rfl, rfl, .inr ⟨by omega, by omega⟩, _, rfl, a, _, _, _, rfl, rfl, hS1, rfl, _, _, rfl, rfl, .inl ⟨by decide, by decide⟩, _, _, rfl, rfl, _, _, rfl, rfl,
      .inl ⟨_, rfl, _, _, rfl, rfl, ?_, _, rfl, a, _, _, 1, rfl, rfl, upd_same, rfl, ?_⟩⟩
    · show (0 : Int) < 2147483629
      decide
    have hx1 : 0 ≤ (x * (x % 40009 + 20021) + 60013 * (c + 1) + 11) % 2147483629 := emod_ge (by decide)
    have hS2 : SqL K (upd (upd H a (.lst [.int d, .int x, .int (c + 1)])) a (.lst [.int d, .int ((x * (x % 40009 + 20021) + 60013 * (c + 1) + 11) % 2147483629), .int (c + 1)])) a [.int d, .int ((x * (x % 40009 + 20021) + 60013 * (c + 1) + 11) % 2147483629), .int (c + 1)] := .inl (.inl upd_same)
    have b2 : But a H (upd (upd H a (.lst [.int d, .int x, .int (c + 1)])) a (.lst [.int d, .int ((x * (x % 40009 + 20021) + 60013 * (c + 1) + 11) % 2147483629), .int (c + 1)])) := (But.refl a H).put.put
    -- if jar[0] > 0
    refine ⟨_, rfl, a, _, _, _, rfl, rfl, hS2, rfl, _, _, rfl, rfl, _, rfl, ?_⟩
    refine ite2 (fun _ => ?_) (fun _ => ?_)
    · -- jar[0], digit = divmod(jar[0], size); return digit
      refine ⟨_, rfl, a, _, _, _, rfl, rfl, hS2, rfl, _, rfl, _, _, rfl, ⟨hn, hn2⟩, fun p hp => ?_⟩
      have pa : p ≠ a := fun e => by
        rw [e, upd_same] at hp
        cases hp
      refine ⟨p, _, rfl, .inl (.inl upd_same), rfl, _, _, rfl, _, rfl, a, _, _, 0, rfl, rfl, by rw [upd_ne pa.symm, upd_same], rfl, _, _, rfl, rfl, ?_⟩
      refine ⟨_, rfl, hQ _ _ (emod_ge hn) (Int.emod_lt_of_pos _ hn) ⟨_, _, _, upd_same, Int.ediv_nonneg hd (by omega), hx1⟩ ?_⟩
      exact (b2.new upd_same hp).put
    · -- return int(jar[1] // 89) % size
      refine ⟨_, rfl, a, _, _, _, rfl, rfl, hS2, rfl, _, _, rfl, rfl, ⟨by decide, by decide⟩, .inl ⟨_, rfl, _, rfl, _, _, rfl, rfl, hn, ?_⟩⟩
      exact hQ _ _ (emod_ge hn) (Int.emod_lt_of_pos _ hn) ⟨_, _, _, upd_same, hd, hx1⟩ b2
end
end K01
namespace Tc
open PySem PySem.Spec PyProof.Rows L2
mutual
theorem Dv.mono {H H' : Hp} (s : Same H H') : ∀ {v : V} {d : PyData}, Dv H v d → Dv H' v d
  | _, _, .non => .non
  | _, _, .bl b => .bl b
  | _, _, .int i => .int i
  | _, _, .str x => .str x
  | _, _, .lst h a => .lst (h.elim (fun z => .inl (s _ _ z)) fun ⟨o, z⟩ => .inr ⟨o, s _ _ z⟩) (DvAll.mono s a)
  | _, _, .tup h a => .tup (h.elim (fun z => .inl (s _ _ z)) fun ⟨o, z⟩ => .inr ⟨o, s _ _ z⟩) (DvAll.mono s a)
  | _, _, .dct h a => .dct (h.elim (fun z => .inl (s _ _ z)) fun ⟨o, z⟩ => .inr ⟨o, s _ _ z⟩) (DvKv.mono s a)
theorem DvAll.mono {H H' : Hp} (s : Same H H') : ∀ {vs : List V} {ds : List PyData}, DvAll H vs ds → DvAll H' vs ds
  | _, _, .nil => .nil
  | _, _, .cons a b => .cons (Dv.mono s a) (DvAll.mono s b)
theorem DvKv.mono {H H' : Hp} (s : Same H H') : ∀ {kvs : List (Key × V)} {ds : List (PyData × PyData)}, DvKv H kvs ds → DvKv H' kvs ds
  | _, _, .nil => .nil
  | _, _, .cons a b => .cons (Dv.mono s a) (DvKv.mono s b)
end
theorem Same.new {H : Hp} {p : Addr} {o : HO} (h : H p = none) : Same H (upd H p o) := fun b u e => by
  rw [upd_ne (ne_of_none e h)]
  exact e
theorem Same.new2 {H : Hp} {p : Addr} {o u : HO} (h : H p = none) : Same H (upd (upd H p o) p u) := fun b z e => by
  rw [upd_ne (ne_of_none e h), upd_ne (ne_of_none e h)]
  exact e
/-- data that repr shows -/
def Good (d : PyData) : Prop := d.showable = true ∧ d.depth ≤ 100 ∧ d.shown.length ≤ sizeLine
instance (d : PyData) : Decidable (Good d) := by unfold Good; exact inferInstance
/-- a def's call, told by what it keeps -/
theorem Call.of {P : Program} {w : World} {K : PySem.W.Frag} {mg : Str → Option Value} {base : Heap} {CX : CXT} {k : Nat} {x qual : Str} {st : Stmt} {f : Addr} {fd : FuncData} {ps : List Str} {sp : Sp}
    (F : Fun K x qual st f fd) (G : FnG P w K mg base CX k f fd ps sp) (gm : mg x = some (.ref f))
    (h : ∀ (kV doc pm : Value) (an : Option Addr) (cdv ct : Value) (us : List Value), us.length = ps.length → bindArgs (PySem.W.fnOf x qual (defArgs st) (defBody st) (defScope st) .none kV doc pm an cdv ct) ⟨us, []⟩ = pure (ps.zip us)) :
    Call P w K mg base CX k x ps sp := ⟨f, fd, G, gm, F.kp, F.binds h⟩
end Tc
namespace K01
open PySem PySem.Spec PyProof.Rows L2 Tc
section
variable {P : Program} {w : World} {K : PySem.W.Frag} {mg : Str → Option Value} {base : Heap}
theorem scPick : FnScope ["_law_jar_here", "_law_menu"] ["_law_jar_here", "_law_menu"] (defScope s_pick) :=
  ⟨rfl, rfl, rfl, by decide +kernel, rfl, by decide +kernel, by decide +kernel⟩
theorem gPick_len : (defScope s_pick).names.lookup ("len" : Str) = some .globalImplicit := by decide +kernel
theorem gPick_draw : (defScope s_pick).names.lookup ("_law_draw" : Str) = some .globalImplicit := by decide +kernel
def spPick : Sp := fun vs H Q _ => ∃ (a m : Addr) (xs : List V), vs = [.ref a, .ref m] ∧ Jar H a ∧ H m = some (.lst xs) ∧ m ≠ a ∧ 0 < xs.length ∧ xs.length ≤ 1000 ∧
  ∀ (v : V) (H' : Hp), v ∈ xs → Jar H' a → But a H H' → Q v H'
theorem ok_pick {f : Addr} {fd : FuncData} (F : Fun K "_law_pick" "_law_pick" s_pick f fd) (T : Bl mg)
    (D : Call P w K mg base CX0 1 "_law_draw" ["_law_jar_here", "_law_size"] spDraw) :
    FnG P w K mg base CX0 2 f fd ["_law_jar_here", "_law_menu"] spPick := by
  refine Fun.okG F scPick (fun vs H Q E h => ?_) (fun cdv A outer s H vs Q E hr hgd h => ?_)
  · obtain ⟨a, m, xs, rfl, _⟩ := h
    rfl
  · obtain ⟨a, m, xs, rfl, hj, hm, hne, h0, h1, hQ⟩ := h
    refine ⟨_, pss_one (ps_ret (pe_ix ix_list (pv 1) (pe_do D hr hgd gPick_draw pass0 (pa_cons (pv 0) (pa_cons
      (pe_callB call_len gPick_len T.len (by decide +kernel) (pa_cons (pv 1) pa_nil)) pa_nil))) (fun _ _ => rfl))), ?_⟩
    refine ⟨_, rfl, _, rfl, _, rfl, _, _, rfl, .inl ⟨_, .inl (.inl hm), rfl⟩, a, _, rfl, hj, by omega, by omega, fun r H' hr0 hr1 hj' hb => ?_⟩
    have hlt : r.toNat < xs.length := by omega
    have hat : atI xs r = some xs[r.toNat] :=
      (congrArg (atI xs) (show r = ((r.toNat : Nat) : Int) by omega)).trans (atI_nat (by simp [hlt]))
    exact ⟨m, xs, r, _, rfl, rfl, .inl (.inl (hb m _ hm hne)), hat, hQ _ _ (List.getElem_mem hlt) hj' hb⟩
theorem scOdd : FnScope ["_law_jar_here", "_law_menu"] ["_law_jar_here"] (defScope s_odd) :=
  ⟨rfl, rfl, rfl, by decide +kernel, rfl, by decide +kernel, by decide +kernel⟩
theorem gOdd_pick : (defScope s_odd).names.lookup ("_law_pick" : Str) = some .globalImplicit := by decide +kernel
def spOdd : Sp := fun vs H Q _ => ∃ a : Addr, vs = [.ref a] ∧ Jar H a ∧
  ∀ (v : V) (d : PyData) (H' : Hp), Dv H' v d → Good d → Jar H' a → But a H H' → Q v H'
theorem ok_odd {f : Addr} {fd : FuncData} (F : Fun K "_law_odd" "_law_odd" s_odd f fd)
    (D : Call P w K mg base CX0 2 "_law_pick" ["_law_jar_here", "_law_menu"] spPick) :
    FnG P w K mg base CX0 3 f fd ["_law_jar_here"] spOdd := by
  refine Fun.okG F scOdd (fun vs H Q E h => ?_) (fun cdv A outer s H vs Q E hr hgd h => ?_)
  · obtain ⟨a, rfl, _⟩ := h
    rfl
  · obtain ⟨a, rfl, hj, hQ⟩ := h
    refine ⟨_, pss_cons (ps_set (i := 1) scOdd.nd rfl (.inl rfl) (pe_lst (pa_cons pe_non (pa_cons pe_int (pa_cons pe_bl (pa_cons pe_str (pa_cons pe_str
        (pa_cons (pe_tup pa_nil) (pa_cons (pe_tup (pa_cons pe_int (pa_cons pe_int pa_nil))) (pa_cons (pe_lst pa_nil) (pa_cons (pe_lst (pa_cons pe_int pa_nil))
        (pa_cons pe_dnewK (pa_cons (pe_disp (pps_cons pe_str pe_int pps_nil) (by rfl) (by rfl) (fun z => by cases z) (by decide))
        (pa_cons (pe_un un_neg pe_int) (pa_cons (pe_op op_pow pe_int pe_int) (pa_cons (pe_tup (pa_cons pe_str (pa_cons (pe_tup (pa_cons pe_int (pa_cons pe_int pa_nil))) pa_nil)))
        (pa_cons pe_str (pa_cons pe_int pa_nil))))))))))))))))))
      (pss_one (ps_ret (pe_do D hr hgd gOdd_pick pass0 (pa_cons (pv 0) (pa_cons (pv 1) pa_nil))))), ?_⟩
    refine ⟨by show 0 ≤ sizeLine; decide, fun p1 h1 => ⟨by show 2 ≤ sizeLine; decide, fun p2 h2 => ⟨by show 0 ≤ sizeLine; decide, fun p3 h3 => ⟨by show 1 ≤ sizeLine; decide, fun p4 h4 => fun p5 h5 => fun p6 h6 => ?_⟩⟩⟩⟩
    refine ⟨upd_same, [(Sum.inr "a", .int 1)], rfl, by decide, ?_⟩
    have s6 := Same.new2 (o := .dK []) (u := .dK (mergeK [] [((Sum.inr "a" : Key), V.int 1)])) h6
    refine ⟨_, rfl, _, _, rfl, rfl, ⟨by decide, by decide, by decide⟩, ⟨by show 2 ≤ sizeLine; decide, fun p7 h7 => ⟨by show 2 ≤ sizeLine; decide, fun p8 h8 => ?_⟩⟩⟩
    refine ⟨by show 16 ≤ sizeLine; decide, fun m hm => ?_⟩
    -- what stands then
    have s5 := Same.new (o := .dK []) h5
    have s4 := Same.new (o := .lst [V.int 3]) h4
    have s3 := Same.new (o := .lst []) h3
    have s2 := Same.new (o := .tup [V.int 1, V.int 2]) h2
    have s1 := Same.new (o := .tup []) h1
    have s7 := Same.new (o := .tup [V.int 0, V.int 1]) h7
    have s8 := Same.new (o := .tup [V.str "a", V.ref p7]) h8
    have t6 := s6.trans (s7.trans s8)
    have t5 := s5.trans t6
    have t4 := s4.trans t5
    have t3 := s3.trans t4
    have t2 := s2.trans t3
    have t1 := s1.trans t2
    refine ⟨_, rfl, _, rfl, a, m, _, rfl, ?_, upd_same, ?_, (by show 0 < 16; decide), (by show 16 ≤ 1000; decide), fun v H' hv hj' hb => ?_⟩
    · obtain ⟨d, x, c, ha, hd, hx⟩ := hj
      exact ⟨d, x, c, Same.new hm _ _ (t1 _ _ ha), hd, hx⟩
    · obtain ⟨d, x, c, ha, hd, hx⟩ := hj
      exact (ne_of_none (t1 _ _ ha) hm).symm
    · obtain ⟨d, x, c, ha, hd, hx⟩ := hj
      have sm := Same.new (o := .lst [V.non, V.int 0, V.bl true, V.str "", V.str "x", V.ref p1, V.ref p2, V.ref p3, V.ref p4, V.ref p5, V.ref p6, V.int (-1), V.int (10 ^ 59), V.ref p8, V.str "given", V.int 7]) hm
      have n1 : p1 ≠ a := (ne_of_none ha h1).symm
      have n2 : p2 ≠ a := (ne_of_none (s1 _ _ ha) h2).symm
      have n3 : p3 ≠ a := (ne_of_none ((s1.trans s2) _ _ ha) h3).symm
      have n4 : p4 ≠ a := (ne_of_none ((s1.trans (s2.trans s3)) _ _ ha) h4).symm
      have n5 : p5 ≠ a := (ne_of_none ((s1.trans (s2.trans (s3.trans s4))) _ _ ha) h5).symm
      have n6 : p6 ≠ a := (ne_of_none ((s1.trans (s2.trans (s3.trans (s4.trans s5)))) _ _ ha) h6).symm
      have n7 : p7 ≠ a := (ne_of_none ((s1.trans (s2.trans (s3.trans (s4.trans (s5.trans s6))))) _ _ ha) h7).symm
      have n8 : p8 ≠ a := (ne_of_none ((s1.trans (s2.trans (s3.trans (s4.trans (s5.trans (s6.trans s7)))))) _ _ ha) h8).symm
      have k1 : H' p1 = some (.tup []) := hb _ _ (sm _ _ (t2 _ _ upd_same)) n1
      have k2 : H' p2 = some (.tup [V.int 1, V.int 2]) := hb _ _ (sm _ _ (t3 _ _ upd_same)) n2
      have k3 : H' p3 = some (.lst []) := hb _ _ (sm _ _ (t4 _ _ upd_same)) n3
      have k4 : H' p4 = some (.lst [V.int 3]) := hb _ _ (sm _ _ (t5 _ _ upd_same)) n4
      have k5 : H' p5 = some (.dK []) := hb _ _ (sm _ _ (t6 _ _ upd_same)) n5
      have k6 : H' p6 = some (.dK (mergeK [] [((Sum.inr "a" : Key), V.int 1)])) := hb _ _ (sm _ _ ((s7.trans s8) _ _ upd_same)) n6
      have k7 : H' p7 = some (.tup [V.int 0, V.int 1]) := hb _ _ (sm _ _ (s8 _ _ upd_same)) n7
      have k8 : H' p8 = some (.tup [V.str "a", V.ref p7]) := hb _ _ (sm _ _ upd_same) n8
      have go : ∀ {d : PyData}, Dv H' v d → Good d → Q v H' := fun {d} h1 h2 => hQ v d H' h1 h2 hj' fun b o e n => hb b o (sm b o (t1 b o e)) n
      simp only [List.mem_cons, List.not_mem_nil, or_false] at hv
      rcases hv with rfl | rfl | rfl | rfl | rfl | rfl | rfl | rfl | rfl | rfl | rfl | rfl | rfl | rfl | rfl | rfl
      · exact go .non (by decide +kernel)
      · exact go (.int _) (by decide +kernel)
      · exact go (.bl _) (by decide +kernel)
      · exact go (.str _) (by decide +kernel)
      · exact go (.str _) (by decide +kernel)
      · exact go (.tup (.inl k1) .nil) (by decide +kernel)
      · exact go (.tup (.inl k2) (.cons (.int _) (.cons (.int _) .nil))) (by decide +kernel)
      · exact go (.lst (.inl k3) .nil) (by decide +kernel)
      · exact go (.lst (.inl k4) (.cons (.int _) .nil)) (by decide +kernel)
      · exact go (.dct (.inl k5) .nil) (by decide +kernel)
      · exact go (.dct (.inl k6) (.cons (.int _) .nil)) (by decide +kernel)
      · exact go (.int _) (by decide +kernel)
      · exact go (.int _) (by decide +kernel)
      · exact go (.tup (.inl k8) (.cons (.str _) (.cons (.tup (.inl k7) (.cons (.int _) (.cons (.int _) .nil))) .nil))) (by decide +kernel)
      · exact go (.str _) (by decide +kernel)
      · exact go (.int _) (by decide +kernel)
end
end K01
namespace Tc
open PySem PySem.Spec PyProof.Rows L2
/-- exceptions of these classes stand at these places, each with the value in its field -/
inductive ExAll (H : Hp) (v : V) : List (Addr × Str) → List Addr → Prop
  | nil : ExAll H v [] []
  | cons {C : Addr} {f : Str} {l : List (Addr × Str)} {a d : Addr} {as : List Addr} : ExAt H a C d f v → ExAll H v l as → ExAll H v ((C, f) :: l) (a :: as)
theorem ExAt.mono {H H' : Hp} {a C d : Addr} {f : Str} {v : V} (s : ∀ b o, H b = some o → (∀ xs, o ≠ .lst xs) → H' b = some o) (e : ExAt H a C d f v) : ExAt H' a C d f v :=
  ⟨s _ _ e.ob (fun _ z => nomatch (show HO.ext _ = HO.lst _ from z)), s _ _ e.di (fun _ z => nomatch (show HO.ext _ = HO.lst _ from z))⟩
theorem ExAll.mono {H H' : Hp} {v : V} (s : ∀ b o, H b = some o → (∀ xs, o ≠ .lst xs) → H' b = some o) : ∀ {l : List (Addr × Str)} {as : List Addr}, ExAll H v l as → ExAll H' v l as
  | _, _, .nil => .nil
  | _, _, .cons e r => .cons (e.mono s) (r.mono s)
theorem ExAll.app {H : Hp} {v : V} : ∀ {l l' : List (Addr × Str)} {as as' : List Addr}, ExAll H v l as → ExAll H v l' as' → ExAll H v (l ++ l') (as ++ as')
  | _, _, _, _, .nil, r => r
  | _, _, _, _, .cons e r, r' => .cons e (ExAll.app r r')
theorem ExAll.len {H : Hp} {v : V} : ∀ {l : List (Addr × Str)} {as : List Addr}, ExAll H v l as → as.length = l.length
  | _, _, .nil => rfl
  | _, _, .cons _ r => congrArg Nat.succ r.len
theorem ExAll.at {H : Hp} {v : V} : ∀ {l : List (Addr × Str)} {as : List Addr} {i : Nat} {a : Addr}, ExAll H v l as → as[i]? = some a → ∃ C f d, l[i]? = some (C, f) ∧ ExAt H a C d f v
  | _, _, _, _, .nil, h => by simp at h
  | _, _, 0, _, .cons e _, h => by
    simp at h
    subst h
    exact ⟨_, _, _, rfl, e⟩
  | _, _, i + 1, _, .cons _ r, h => by
    obtain ⟨C, f, d, h1, h2⟩ := r.at (i := i) (by simpa using h)
    exact ⟨C, f, d, by simpa using h1, h2⟩
/-- the arguments X(v), Y(v), .. -/
def tNews (te : TE) : List (Addr × Str) → TA
  | [] => tNil
  | (C, f) :: l => tCons (tNewX C f te) (tNews te l)
theorem news_ok {i : Nat} {σ : L2.St} {v : V} (hv : σ[i]? = some (some v)) : ∀ (l : List (Addr × Str)) (H : Hp) (Q : List V → Hp → Prop),
    (∀ as H', Same H H' → ExAll H' v l as → Q (as.map V.ref) H') → tNews (tVar i) l σ H Q
  | [], H, Q, h => h [] H (Same.refl H) .nil
  | (C, f) :: l, H, Q, h => by
    refine ⟨v, hv, fun a d ha hd hne => ?_⟩
    refine news_ok hv l _ _ fun as H' s e => ?_
    have hda : upd H d (exd d [(f, v)]) a = none := by
      rw [upd_ne hne.symm]
      exact ha
    exact h (a :: as) H' ((Same.new hd).trans ((Same.new hda).trans s)) (.cons ⟨s _ _ upd_same, s _ _ (by rw [upd_ne hne]; exact upd_same)⟩ e)
/-- all but what stands at p, and all that is no list -/
theorem but_ex {p : Addr} {H H' : Hp} {xs : List V} (hp : H p = some (.lst xs)) (b : ∀ c o, H c = some o → c ≠ p → H' c = some o) : ∀ c o, H c = some o → (∀ xs, o ≠ .lst xs) → H' c = some o := fun c o e n =>
  b c o e fun z => by
    rw [z, hp] at e
    exact n xs (Option.some.inj e).symm
/-- found = [X(v), ..] -/
theorem first_ok {i j : Nat} {σ : L2.St} {D : Ends} {v : V} {l : List (Addr × Str)} {H : Hp} (hv : σ[i]? = some (some v)) (hz : l.length ≤ 1000)
    (h : ∀ p as H', H p = none → Same H H' → H' p = some (.lst (as.map V.ref)) → ExAll H' v l as → D.nx (σ.set j (some (.ref p))) H') :
    tAsg (tLst (tNews (tVar i) l)) (gName j) D σ H := by
  refine news_ok hv l _ _ fun as H' s e => ?_
  refine ⟨by rw [List.length_map, e.len]; exact Nat.le_trans hz (by decide), fun p hp => ?_⟩
  have b := Same.new (o := .lst (as.map V.ref)) hp
  exact h p as _ (s.free hp) (s.trans b) upd_same (e.mono fun c o z _ => b c o z)
/-- found.extend([X(v), ..]) -/
theorem extend_ok {K : PySem.W.Frag} {i j : Nat} {σ : L2.St} {D : Ends} {v : V} {p : Addr} {l l' : List (Addr × Str)} {as : List Addr} {H : Hp}
    (hv : σ[i]? = some (some v)) (hf : σ[j]? = some (some (.ref p))) (hp : H p = some (.lst (as.map V.ref))) (he : ExAll H v l as) (hz : l.length + l'.length ≤ 1000)
    (h : ∀ as' H', H' p = some (.lst ((as ++ as').map V.ref)) → ExAll H' v (l ++ l') (as ++ as') → (∀ c o, H c = some o → c ≠ p → H' c = some o) → D.nx σ H') :
    tDrop (tBM K "list" rExtend (tVar j) (tCons (tLst (tNews (tVar i) l')) tNil)) D σ H := by
  refine ⟨_, hf, .inl ⟨rfl, _, SqL.of hp⟩, ?_⟩
  refine news_ok hv l' _ _ fun as' H' s e => ?_
  have hl := e.len
  have hl0 := he.len
  refine ⟨by rw [List.length_map, hl]; exact Nat.le_trans (by omega) (by decide : 1000 ≤ sizeLine), fun q hq => ?_⟩
  have pq : p ≠ q := ne_of_none (s _ _ hp) hq
  have hp2 : upd H' q (.lst (as'.map V.ref)) p = some (.lst (as.map V.ref)) := by
    rw [upd_ne pq]
    exact s _ _ hp
  refine ⟨p, q, _, _, rfl, rfl, hp2, upd_same, by rw [List.length_map, List.length_map, hl, hl0]; exact Nat.le_trans hz (by decide), ?_⟩
  have keep : ∀ c o, H' c = some o → c ≠ p → upd (upd H' q (.lst (as'.map V.ref))) p (.lst (as.map V.ref ++ as'.map V.ref)) c = some o := fun c o z n => by
    rw [upd_ne n, upd_ne (ne_of_none z hq)]
    exact z
  refine h as' _ (by rw [upd_same, List.map_append]) ?_ fun c o z n => keep c o (s c o z) n
  exact ((he.mono fun c o z _ => s c o z).app e).mono (but_ex (s _ _ hp) keep)
end Tc
namespace K01
open PySem PySem.Spec PyProof.Rows L2 Tc
/-- the classes -/
structure Fx (K : PySem.W.Frag) (mg : Str → Option Value) : Prop where
  nw : ∀ (i : Nat) (e : Str × Str × Kin × Nat), exs[i]? = some e → NewAble K mg e.1 e.2.1 (He.ga K e.1)
/-- classes and fields, from the i-th on -/
def cf (K : PySem.W.Frag) (i n : Nat) : List (Addr × Str) := ((exs.drop i).take n).map fun e => (He.ga K e.1, e.2.1)
theorem cf_le (K : PySem.W.Frag) (i n : Nat) : (cf K i n).length ≤ 45 := by
  have h : exs.length = 45 := rfl
  unfold cf
  rw [List.length_map, List.length_take, List.length_drop, h]
  omega
theorem cf_app (K : PySem.W.Frag) (i n m : Nat) : cf K i n ++ cf K (i + n) m = cf K i (n + m) := by
  unfold cf
  rw [← List.map_append, List.take_add, List.drop_drop]
/-- X(v), .. in a list -/
def spMake (K : PySem.W.Frag) (i n : Nat) : Sp := fun vs H Q _ => ∃ v : V, vs = [v] ∧
  ∀ (p : Addr) (as : List Addr) (H' : Hp), H p = none → Same H H' → H' p = some (.lst (as.map V.ref)) → ExAll H' v (cf K i n) as → Q (.ref p) H'
section
variable {P : Program} {w : World} {K : PySem.W.Frag} {mg : Str → Option Value} {base : Heap}
theorem g_values_0 : ∀ x ∈ (["InvalidText", "InvalidName", "InvalidNumber", "InvalidIndex", "InvalidStretch", "InvalidCount", "InvalidFilling", "InvalidCell"] : List Str), (defScope s_values).names.lookup x = some .globalImplicit := by decide +kernel
theorem g_values_1 : ∀ x ∈ (["InvalidTold", "InvalidPeople", "InvalidPlaces", "InvalidScale", "InvalidScores", "InvalidFact", "InvalidFace", "InvalidSpot"] : List Str), (defScope s_values).names.lookup x = some .globalImplicit := by decide +kernel
theorem g_values_2 : ∀ x ∈ (["InvalidBox", "InvalidShare", "InvalidPairs", "InvalidOrder", "InvalidProfile", "InvalidRule", "InvalidPlace", "InvalidWish"] : List Str), (defScope s_values).names.lookup x = some .globalImplicit := by decide +kernel
theorem g_values_3 : ∀ x ∈ (["NotAreas", "NotACross", "NotAPage", "NotAReport", "NotFaces", "NotAPoll", "NotVotes", "NotAThing"] : List Str), (defScope s_values).names.lookup x = some .globalImplicit := by decide +kernel
theorem g_values_4 : ∀ x ∈ (["NotADesk"] : List Str), (defScope s_values).names.lookup x = some .globalImplicit := by decide +kernel
theorem sc_values : FnScope ["_law_odd_here", "_law_found"] ["_law_odd_here"] (defScope s_values) :=
  ⟨rfl, rfl, rfl, by decide +kernel, rfl, by decide +kernel, by decide +kernel⟩
theorem ok_values {f : Addr} {fd : FuncData} (F : Fun K "_law_values" "_law_values" s_values f fd) (T : Fx K mg) :
    FnOk P w K mg base CX0 3 f fd ["_law_odd_here"] (spMake K 0 33) := by
  refine F.ok sc_values (fun vs H Q E h => ?_) (fun cdv A outer s H vs Q E hr h => ?_)
  · obtain ⟨v, rfl, _⟩ := h
    rfl
  · obtain ⟨v, rfl, hQ⟩ := h
    refine ⟨_, pss_cons (ps_set (i := 1) sc_values.nd rfl (.inl rfl) (pe_lst (pa_cons (pe_new (T.nw 0 (ex1 "InvalidText" "given" .v 2) rfl) hr (g_values_0 _ (.head _)) (pv 0)) (pa_cons (pe_new (T.nw 1 (ex1 "InvalidName" "given" .v 3) rfl) hr (g_values_0 _ (.tail _ (.head _))) (pv 0)) (pa_cons (pe_new (T.nw 2 (ex1 "InvalidNumber" "given" .v 4) rfl) hr (g_values_0 _ (.tail _ (.tail _ (.head _)))) (pv 0)) (pa_cons (pe_new (T.nw 3 (ex1 "InvalidIndex" "given" .v 5) rfl) hr (g_values_0 _ (.tail _ (.tail _ (.tail _ (.head _))))) (pv 0)) (pa_cons (pe_new (T.nw 4 (ex1 "InvalidStretch" "given" .v 6) rfl) hr (g_values_0 _ (.tail _ (.tail _ (.tail _ (.tail _ (.head _)))))) (pv 0)) pa_nil)))))))
      (pss_cons (ps_expr (pe_bm PySem.F.plainAttrs_list PySem.F.slot_list_extend PySem.F.type_list_extend mt_extend (pv 1) (pa_cons (pe_lst (pa_cons (pe_new (T.nw 5 (ex1 "InvalidCount" "given" .v 7) rfl) hr (g_values_0 _ (.tail _ (.tail _ (.tail _ (.tail _ (.tail _ (.head _))))))) (pv 0)) (pa_cons (pe_new (T.nw 6 (ex1 "InvalidFilling" "given" .v 8) rfl) hr (g_values_0 _ (.tail _ (.tail _ (.tail _ (.tail _ (.tail _ (.tail _ (.head _)))))))) (pv 0)) (pa_cons (pe_new (T.nw 7 (ex1 "InvalidCell" "given" .v 9) rfl) hr (g_values_0 _ (.tail _ (.tail _ (.tail _ (.tail _ (.tail _ (.tail _ (.tail _ (.head _))))))))) (pv 0)) (pa_cons (pe_new (T.nw 8 (ex1 "InvalidTold" "given" .v 10) rfl) hr (g_values_1 _ (.head _)) (pv 0)) (pa_cons (pe_new (T.nw 9 (ex1 "InvalidPeople" "given" .v 11) rfl) hr (g_values_1 _ (.tail _ (.head _))) (pv 0)) pa_nil)))))) pa_nil)))
      (pss_cons (ps_expr (pe_bm PySem.F.plainAttrs_list PySem.F.slot_list_extend PySem.F.type_list_extend mt_extend (pv 1) (pa_cons (pe_lst (pa_cons (pe_new (T.nw 10 (ex1 "InvalidPlaces" "given" .v 12) rfl) hr (g_values_1 _ (.tail _ (.tail _ (.head _)))) (pv 0)) (pa_cons (pe_new (T.nw 11 (ex1 "InvalidScale" "given" .v 13) rfl) hr (g_values_1 _ (.tail _ (.tail _ (.tail _ (.head _))))) (pv 0)) (pa_cons (pe_new (T.nw 12 (ex1 "InvalidScores" "given" .v 14) rfl) hr (g_values_1 _ (.tail _ (.tail _ (.tail _ (.tail _ (.head _)))))) (pv 0)) (pa_cons (pe_new (T.nw 13 (ex1 "InvalidFact" "given" .v 15) rfl) hr (g_values_1 _ (.tail _ (.tail _ (.tail _ (.tail _ (.tail _ (.head _))))))) (pv 0)) (pa_cons (pe_new (T.nw 14 (ex1 "InvalidFace" "given" .v 16) rfl) hr (g_values_1 _ (.tail _ (.tail _ (.tail _ (.tail _ (.tail _ (.tail _ (.head _)))))))) (pv 0)) pa_nil)))))) pa_nil)))
      (pss_cons (ps_expr (pe_bm PySem.F.plainAttrs_list PySem.F.slot_list_extend PySem.F.type_list_extend mt_extend (pv 1) (pa_cons (pe_lst (pa_cons (pe_new (T.nw 15 (ex1 "InvalidSpot" "given" .v 17) rfl) hr (g_values_1 _ (.tail _ (.tail _ (.tail _ (.tail _ (.tail _ (.tail _ (.tail _ (.head _))))))))) (pv 0)) (pa_cons (pe_new (T.nw 16 (ex1 "InvalidBox" "given" .v 18) rfl) hr (g_values_2 _ (.head _)) (pv 0)) (pa_cons (pe_new (T.nw 17 (ex1 "InvalidShare" "given" .v 19) rfl) hr (g_values_2 _ (.tail _ (.head _))) (pv 0)) (pa_cons (pe_new (T.nw 18 (ex1 "InvalidPairs" "given" .v 20) rfl) hr (g_values_2 _ (.tail _ (.tail _ (.head _)))) (pv 0)) (pa_cons (pe_new (T.nw 19 (ex1 "InvalidOrder" "given" .v 21) rfl) hr (g_values_2 _ (.tail _ (.tail _ (.tail _ (.head _))))) (pv 0)) pa_nil)))))) pa_nil)))
      (pss_cons (ps_expr (pe_bm PySem.F.plainAttrs_list PySem.F.slot_list_extend PySem.F.type_list_extend mt_extend (pv 1) (pa_cons (pe_lst (pa_cons (pe_new (T.nw 20 (ex1 "InvalidProfile" "given" .v 22) rfl) hr (g_values_2 _ (.tail _ (.tail _ (.tail _ (.tail _ (.head _)))))) (pv 0)) (pa_cons (pe_new (T.nw 21 (ex1 "InvalidRule" "given" .v 23) rfl) hr (g_values_2 _ (.tail _ (.tail _ (.tail _ (.tail _ (.tail _ (.head _))))))) (pv 0)) (pa_cons (pe_new (T.nw 22 (ex1 "InvalidPlace" "given" .v 24) rfl) hr (g_values_2 _ (.tail _ (.tail _ (.tail _ (.tail _ (.tail _ (.tail _ (.head _)))))))) (pv 0)) (pa_cons (pe_new (T.nw 23 (ex1 "InvalidWish" "given" .v 25) rfl) hr (g_values_2 _ (.tail _ (.tail _ (.tail _ (.tail _ (.tail _ (.tail _ (.tail _ (.head _))))))))) (pv 0)) (pa_cons (pe_new (T.nw 24 (ex1 "NotAreas" "given" .v 26) rfl) hr (g_values_3 _ (.head _)) (pv 0)) pa_nil)))))) pa_nil)))
      (pss_cons (ps_expr (pe_bm PySem.F.plainAttrs_list PySem.F.slot_list_extend PySem.F.type_list_extend mt_extend (pv 1) (pa_cons (pe_lst (pa_cons (pe_new (T.nw 25 (ex1 "NotACross" "given" .v 27) rfl) hr (g_values_3 _ (.tail _ (.head _))) (pv 0)) (pa_cons (pe_new (T.nw 26 (ex1 "NotAPage" "given" .v 28) rfl) hr (g_values_3 _ (.tail _ (.tail _ (.head _)))) (pv 0)) (pa_cons (pe_new (T.nw 27 (ex1 "NotAReport" "given" .v 29) rfl) hr (g_values_3 _ (.tail _ (.tail _ (.tail _ (.head _))))) (pv 0)) (pa_cons (pe_new (T.nw 28 (ex1 "NotFaces" "given" .v 30) rfl) hr (g_values_3 _ (.tail _ (.tail _ (.tail _ (.tail _ (.head _)))))) (pv 0)) (pa_cons (pe_new (T.nw 29 (ex1 "NotAPoll" "given" .v 31) rfl) hr (g_values_3 _ (.tail _ (.tail _ (.tail _ (.tail _ (.tail _ (.head _))))))) (pv 0)) (pa_cons (pe_new (T.nw 30 (ex1 "NotVotes" "given" .v 32) rfl) hr (g_values_3 _ (.tail _ (.tail _ (.tail _ (.tail _ (.tail _ (.tail _ (.head _)))))))) (pv 0)) pa_nil))))))) pa_nil)))
      (pss_cons (ps_expr (pe_bm PySem.F.plainAttrs_list PySem.F.slot_list_extend PySem.F.type_list_extend mt_extend (pv 1) (pa_cons (pe_lst (pa_cons (pe_new (T.nw 31 (ex1 "NotAThing" "given" .v 33) rfl) hr (g_values_3 _ (.tail _ (.tail _ (.tail _ (.tail _ (.tail _ (.tail _ (.tail _ (.head _))))))))) (pv 0)) (pa_cons (pe_new (T.nw 32 (ex1 "NotADesk" "given" .v 34) rfl) hr (g_values_4 _ (.head _)) (pv 0)) pa_nil))) pa_nil)))
      (pss_one (ps_ret (pv 1))))))))), ?_⟩
    refine first_ok (i := 0) (j := 1) (l := cf K 0 5) rfl (Nat.le_trans (cf_le K _ _) (by decide)) fun p as0 H0 hp0 b0 q0 e0 => ?_
    refine extend_ok (i := 0) (j := 1) (p := p) (as := as0) (l := cf K 0 5) (l' := cf K 5 5) rfl rfl q0 e0 (by have := cf_le K 0 5; have := cf_le K 5 5; omega) fun as1 H1 q1 e1 c1 => ?_
    have b1 : Same H H1 := fun c o z => c1 c o (b0 c o z) (ne_of_none z hp0)
    have e1 := (congrArg (fun l => ExAll H1 v l (as0 ++ as1)) (cf_app K 0 5 5)).mp e1
    refine extend_ok (i := 0) (j := 1) (p := p) (as := (as0 ++ as1)) (l := cf K 0 10) (l' := cf K 10 5) rfl rfl q1 e1 (by have := cf_le K 0 10; have := cf_le K 10 5; omega) fun as2 H2 q2 e2 c2 => ?_
    have b2 : Same H H2 := fun c o z => c2 c o (b1 c o z) (ne_of_none z hp0)
    have e2 := (congrArg (fun l => ExAll H2 v l ((as0 ++ as1) ++ as2)) (cf_app K 0 10 5)).mp e2
    refine extend_ok (i := 0) (j := 1) (p := p) (as := ((as0 ++ as1) ++ as2)) (l := cf K 0 15) (l' := cf K 15 5) rfl rfl q2 e2 (by have := cf_le K 0 15; have := cf_le K 15 5; omega) fun as3 H3 q3 e3 c3 => ?_
    have b3 : Same H H3 := fun c o z => c3 c o (b2 c o z) (ne_of_none z hp0)
    have e3 := (congrArg (fun l => ExAll H3 v l (((as0 ++ as1) ++ as2) ++ as3)) (cf_app K 0 15 5)).mp e3
    refine extend_ok (i := 0) (j := 1) (p := p) (as := (((as0 ++ as1) ++ as2) ++ as3)) (l := cf K 0 20) (l' := cf K 20 5) rfl rfl q3 e3 (by have := cf_le K 0 20; have := cf_le K 20 5; omega) fun as4 H4 q4 e4 c4 => ?_
    have b4 : Same H H4 := fun c o z => c4 c o (b3 c o z) (ne_of_none z hp0)
    have e4 := (congrArg (fun l => ExAll H4 v l ((((as0 ++ as1) ++ as2) ++ as3) ++ as4)) (cf_app K 0 20 5)).mp e4
    refine extend_ok (i := 0) (j := 1) (p := p) (as := ((((as0 ++ as1) ++ as2) ++ as3) ++ as4)) (l := cf K 0 25) (l' := cf K 25 6) rfl rfl q4 e4 (by have := cf_le K 0 25; have := cf_le K 25 6; omega) fun as5 H5 q5 e5 c5 => ?_
    have b5 : Same H H5 := fun c o z => c5 c o (b4 c o z) (ne_of_none z hp0)
    have e5 := (congrArg (fun l => ExAll H5 v l (((((as0 ++ as1) ++ as2) ++ as3) ++ as4) ++ as5)) (cf_app K 0 25 6)).mp e5
    refine extend_ok (i := 0) (j := 1) (p := p) (as := (((((as0 ++ as1) ++ as2) ++ as3) ++ as4) ++ as5)) (l := cf K 0 31) (l' := cf K 31 2) rfl rfl q5 e5 (by have := cf_le K 0 31; have := cf_le K 31 2; omega) fun as6 H6 q6 e6 c6 => ?_
    have b6 : Same H H6 := fun c o z => c6 c o (b5 c o z) (ne_of_none z hp0)
    have e6 := (congrArg (fun l => ExAll H6 v l ((((((as0 ++ as1) ++ as2) ++ as3) ++ as4) ++ as5) ++ as6)) (cf_app K 0 31 2)).mp e6
    exact ⟨_, rfl, hQ p ((((((as0 ++ as1) ++ as2) ++ as3) ++ as4) ++ as5) ++ as6) H6 hp0 b6 q6 e6⟩
theorem g_others_0 : ∀ x ∈ (["InvalidLines", "InvalidNames", "InvalidCells", "InvalidFacts", "InvalidShares", "InvalidFirsts", "InvalidPolls", "InvalidLog"] : List Str), (defScope s_others).names.lookup x = some .globalImplicit := by decide +kernel
theorem g_others_1 : ∀ x ∈ (["UnknownName", "InUse", "TooMany", "Broken"] : List Str), (defScope s_others).names.lookup x = some .globalImplicit := by decide +kernel
theorem sc_others : FnScope ["_law_odd_here", "_law_found"] ["_law_odd_here"] (defScope s_others) :=
  ⟨rfl, rfl, rfl, by decide +kernel, rfl, by decide +kernel, by decide +kernel⟩
theorem ok_others {f : Addr} {fd : FuncData} (F : Fun K "_law_others" "_law_others" s_others f fd) (T : Fx K mg) :
    FnOk P w K mg base CX0 3 f fd ["_law_odd_here"] (spMake K 33 12) := by
  refine F.ok sc_others (fun vs H Q E h => ?_) (fun cdv A outer s H vs Q E hr h => ?_)
  · obtain ⟨v, rfl, _⟩ := h
    rfl
  · obtain ⟨v, rfl, hQ⟩ := h
    refine ⟨_, pss_cons (ps_set (i := 1) sc_others.nd rfl (.inl rfl) (pe_lst (pa_cons (pe_new (T.nw 33 (ex1 "InvalidLines" "index" .v 35) rfl) hr (g_others_0 _ (.head _)) (pv 0)) (pa_cons (pe_new (T.nw 34 (ex1 "InvalidNames" "index" .v 36) rfl) hr (g_others_0 _ (.tail _ (.head _))) (pv 0)) (pa_cons (pe_new (T.nw 35 (ex1 "InvalidCells" "index" .v 37) rfl) hr (g_others_0 _ (.tail _ (.tail _ (.head _)))) (pv 0)) (pa_cons (pe_new (T.nw 36 (ex1 "InvalidFacts" "index" .v 38) rfl) hr (g_others_0 _ (.tail _ (.tail _ (.tail _ (.head _))))) (pv 0)) (pa_cons (pe_new (T.nw 37 (ex1 "InvalidShares" "index" .v 39) rfl) hr (g_others_0 _ (.tail _ (.tail _ (.tail _ (.tail _ (.head _)))))) (pv 0)) pa_nil)))))))
      (pss_cons (ps_expr (pe_bm PySem.F.plainAttrs_list PySem.F.slot_list_extend PySem.F.type_list_extend mt_extend (pv 1) (pa_cons (pe_lst (pa_cons (pe_new (T.nw 38 (ex1 "InvalidFirsts" "index" .v 40) rfl) hr (g_others_0 _ (.tail _ (.tail _ (.tail _ (.tail _ (.tail _ (.head _))))))) (pv 0)) (pa_cons (pe_new (T.nw 39 (ex1 "InvalidPolls" "index" .v 41) rfl) hr (g_others_0 _ (.tail _ (.tail _ (.tail _ (.tail _ (.tail _ (.tail _ (.head _)))))))) (pv 0)) (pa_cons (pe_new (T.nw 40 (ex1 "InvalidLog" "index" .v 42) rfl) hr (g_others_0 _ (.tail _ (.tail _ (.tail _ (.tail _ (.tail _ (.tail _ (.tail _ (.head _))))))))) (pv 0)) (pa_cons (pe_new (T.nw 41 (ex1 "UnknownName" "given" .l 44) rfl) hr (g_others_1 _ (.head _)) (pv 0)) (pa_cons (pe_new (T.nw 42 (ex1 "InUse" "index" .l 45) rfl) hr (g_others_1 _ (.tail _ (.head _))) (pv 0)) pa_nil)))))) pa_nil)))
      (pss_cons (ps_expr (pe_bm PySem.F.plainAttrs_list PySem.F.slot_list_extend PySem.F.type_list_extend mt_extend (pv 1) (pa_cons (pe_lst (pa_cons (pe_new (T.nw 43 (ex1 "TooMany" "given" .a 47) rfl) hr (g_others_1 _ (.tail _ (.tail _ (.head _)))) (pv 0)) (pa_cons (pe_new (T.nw 44 (ex1 "Broken" "index" .a 48) rfl) hr (g_others_1 _ (.tail _ (.tail _ (.tail _ (.head _))))) (pv 0)) pa_nil))) pa_nil)))
      (pss_one (ps_ret (pv 1))))), ?_⟩
    refine first_ok (i := 0) (j := 1) (l := cf K 33 5) rfl (Nat.le_trans (cf_le K _ _) (by decide)) fun p as0 H0 hp0 b0 q0 e0 => ?_
    refine extend_ok (i := 0) (j := 1) (p := p) (as := as0) (l := cf K 33 5) (l' := cf K 38 5) rfl rfl q0 e0 (by have := cf_le K 33 5; have := cf_le K 38 5; omega) fun as1 H1 q1 e1 c1 => ?_
    have b1 : Same H H1 := fun c o z => c1 c o (b0 c o z) (ne_of_none z hp0)
    have e1 := (congrArg (fun l => ExAll H1 v l (as0 ++ as1)) (cf_app K 33 5 5)).mp e1
    refine extend_ok (i := 0) (j := 1) (p := p) (as := (as0 ++ as1)) (l := cf K 33 10) (l' := cf K 43 2) rfl rfl q1 e1 (by have := cf_le K 33 10; have := cf_le K 43 2; omega) fun as2 H2 q2 e2 c2 => ?_
    have b2 : Same H H2 := fun c o z => c2 c o (b1 c o z) (ne_of_none z hp0)
    have e2 := (congrArg (fun l => ExAll H2 v l ((as0 ++ as1) ++ as2)) (cf_app K 33 10 2)).mp e2
    exact ⟨_, rfl, hQ p ((as0 ++ as1) ++ as2) H2 hp0 b2 q2 e2⟩
theorem g_named_values_0 : ∀ x ∈ (["InvalidText", "InvalidName", "InvalidNumber", "InvalidIndex", "InvalidStretch", "InvalidCount", "InvalidFilling", "InvalidCell"] : List Str), (defScope s_named_values).names.lookup x = some .globalImplicit := by decide +kernel
theorem g_named_values_1 : ∀ x ∈ (["InvalidTold", "InvalidPeople", "InvalidPlaces", "InvalidScale", "InvalidScores", "InvalidFact", "InvalidFace", "InvalidSpot"] : List Str), (defScope s_named_values).names.lookup x = some .globalImplicit := by decide +kernel
theorem g_named_values_2 : ∀ x ∈ (["InvalidBox", "InvalidShare", "InvalidPairs", "InvalidOrder", "InvalidProfile", "InvalidRule", "InvalidPlace", "InvalidWish"] : List Str), (defScope s_named_values).names.lookup x = some .globalImplicit := by decide +kernel
theorem g_named_values_3 : ∀ x ∈ (["NotAreas", "NotACross", "NotAPage", "NotAReport", "NotFaces", "NotAPoll", "NotVotes", "NotAThing"] : List Str), (defScope s_named_values).names.lookup x = some .globalImplicit := by decide +kernel
theorem g_named_values_4 : ∀ x ∈ (["NotADesk"] : List Str), (defScope s_named_values).names.lookup x = some .globalImplicit := by decide +kernel
theorem sc_named_values : FnScope ["_law_odd_here", "_law_found"] ["_law_odd_here"] (defScope s_named_values) :=
  ⟨rfl, rfl, rfl, by decide +kernel, rfl, by decide +kernel, by decide +kernel⟩
theorem ok_named_values {f : Addr} {fd : FuncData} (F : Fun K "_law_named_values" "_law_named_values" s_named_values f fd) (T : Fx K mg) :
    FnOk P w K mg base CX0 3 f fd ["_law_odd_here"] (spMake K 0 33) := by
  refine F.ok sc_named_values (fun vs H Q E h => ?_) (fun cdv A outer s H vs Q E hr h => ?_)
  · obtain ⟨v, rfl, _⟩ := h
    rfl
  · obtain ⟨v, rfl, hQ⟩ := h
    refine ⟨_, pss_cons (ps_set (i := 1) sc_named_values.nd rfl (.inl rfl) (pe_lst (pa_cons (pe_newk (T.nw 0 (ex1 "InvalidText" "given" .v 2) rfl) hr (g_named_values_0 _ (.head _)) (pv 0)) (pa_cons (pe_newk (T.nw 1 (ex1 "InvalidName" "given" .v 3) rfl) hr (g_named_values_0 _ (.tail _ (.head _))) (pv 0)) (pa_cons (pe_newk (T.nw 2 (ex1 "InvalidNumber" "given" .v 4) rfl) hr (g_named_values_0 _ (.tail _ (.tail _ (.head _)))) (pv 0)) pa_nil)))))
      (pss_cons (ps_expr (pe_bm PySem.F.plainAttrs_list PySem.F.slot_list_extend PySem.F.type_list_extend mt_extend (pv 1) (pa_cons (pe_lst (pa_cons (pe_newk (T.nw 3 (ex1 "InvalidIndex" "given" .v 5) rfl) hr (g_named_values_0 _ (.tail _ (.tail _ (.tail _ (.head _))))) (pv 0)) (pa_cons (pe_newk (T.nw 4 (ex1 "InvalidStretch" "given" .v 6) rfl) hr (g_named_values_0 _ (.tail _ (.tail _ (.tail _ (.tail _ (.head _)))))) (pv 0)) (pa_cons (pe_newk (T.nw 5 (ex1 "InvalidCount" "given" .v 7) rfl) hr (g_named_values_0 _ (.tail _ (.tail _ (.tail _ (.tail _ (.tail _ (.head _))))))) (pv 0)) pa_nil)))) pa_nil)))
      (pss_cons (ps_expr (pe_bm PySem.F.plainAttrs_list PySem.F.slot_list_extend PySem.F.type_list_extend mt_extend (pv 1) (pa_cons (pe_lst (pa_cons (pe_newk (T.nw 6 (ex1 "InvalidFilling" "given" .v 8) rfl) hr (g_named_values_0 _ (.tail _ (.tail _ (.tail _ (.tail _ (.tail _ (.tail _ (.head _)))))))) (pv 0)) (pa_cons (pe_newk (T.nw 7 (ex1 "InvalidCell" "given" .v 9) rfl) hr (g_named_values_0 _ (.tail _ (.tail _ (.tail _ (.tail _ (.tail _ (.tail _ (.tail _ (.head _))))))))) (pv 0)) (pa_cons (pe_newk (T.nw 8 (ex1 "InvalidTold" "given" .v 10) rfl) hr (g_named_values_1 _ (.head _)) (pv 0)) pa_nil)))) pa_nil)))
      (pss_cons (ps_expr (pe_bm PySem.F.plainAttrs_list PySem.F.slot_list_extend PySem.F.type_list_extend mt_extend (pv 1) (pa_cons (pe_lst (pa_cons (pe_newk (T.nw 9 (ex1 "InvalidPeople" "given" .v 11) rfl) hr (g_named_values_1 _ (.tail _ (.head _))) (pv 0)) (pa_cons (pe_newk (T.nw 10 (ex1 "InvalidPlaces" "given" .v 12) rfl) hr (g_named_values_1 _ (.tail _ (.tail _ (.head _)))) (pv 0)) (pa_cons (pe_newk (T.nw 11 (ex1 "InvalidScale" "given" .v 13) rfl) hr (g_named_values_1 _ (.tail _ (.tail _ (.tail _ (.head _))))) (pv 0)) pa_nil)))) pa_nil)))
      (pss_cons (ps_expr (pe_bm PySem.F.plainAttrs_list PySem.F.slot_list_extend PySem.F.type_list_extend mt_extend (pv 1) (pa_cons (pe_lst (pa_cons (pe_newk (T.nw 12 (ex1 "InvalidScores" "given" .v 14) rfl) hr (g_named_values_1 _ (.tail _ (.tail _ (.tail _ (.tail _ (.head _)))))) (pv 0)) (pa_cons (pe_newk (T.nw 13 (ex1 "InvalidFact" "given" .v 15) rfl) hr (g_named_values_1 _ (.tail _ (.tail _ (.tail _ (.tail _ (.tail _ (.head _))))))) (pv 0)) (pa_cons (pe_newk (T.nw 14 (ex1 "InvalidFace" "given" .v 16) rfl) hr (g_named_values_1 _ (.tail _ (.tail _ (.tail _ (.tail _ (.tail _ (.tail _ (.head _)))))))) (pv 0)) pa_nil)))) pa_nil)))
      (pss_cons (ps_expr (pe_bm PySem.F.plainAttrs_list PySem.F.slot_list_extend PySem.F.type_list_extend mt_extend (pv 1) (pa_cons (pe_lst (pa_cons (pe_newk (T.nw 15 (ex1 "InvalidSpot" "given" .v 17) rfl) hr (g_named_values_1 _ (.tail _ (.tail _ (.tail _ (.tail _ (.tail _ (.tail _ (.tail _ (.head _))))))))) (pv 0)) (pa_cons (pe_newk (T.nw 16 (ex1 "InvalidBox" "given" .v 18) rfl) hr (g_named_values_2 _ (.head _)) (pv 0)) (pa_cons (pe_newk (T.nw 17 (ex1 "InvalidShare" "given" .v 19) rfl) hr (g_named_values_2 _ (.tail _ (.head _))) (pv 0)) pa_nil)))) pa_nil)))
      (pss_cons (ps_expr (pe_bm PySem.F.plainAttrs_list PySem.F.slot_list_extend PySem.F.type_list_extend mt_extend (pv 1) (pa_cons (pe_lst (pa_cons (pe_newk (T.nw 18 (ex1 "InvalidPairs" "given" .v 20) rfl) hr (g_named_values_2 _ (.tail _ (.tail _ (.head _)))) (pv 0)) (pa_cons (pe_newk (T.nw 19 (ex1 "InvalidOrder" "given" .v 21) rfl) hr (g_named_values_2 _ (.tail _ (.tail _ (.tail _ (.head _))))) (pv 0)) (pa_cons (pe_newk (T.nw 20 (ex1 "InvalidProfile" "given" .v 22) rfl) hr (g_named_values_2 _ (.tail _ (.tail _ (.tail _ (.tail _ (.head _)))))) (pv 0)) pa_nil)))) pa_nil)))
      (pss_cons (ps_expr (pe_bm PySem.F.plainAttrs_list PySem.F.slot_list_extend PySem.F.type_list_extend mt_extend (pv 1) (pa_cons (pe_lst (pa_cons (pe_newk (T.nw 21 (ex1 "InvalidRule" "given" .v 23) rfl) hr (g_named_values_2 _ (.tail _ (.tail _ (.tail _ (.tail _ (.tail _ (.head _))))))) (pv 0)) (pa_cons (pe_newk (T.nw 22 (ex1 "InvalidPlace" "given" .v 24) rfl) hr (g_named_values_2 _ (.tail _ (.tail _ (.tail _ (.tail _ (.tail _ (.tail _ (.head _)))))))) (pv 0)) (pa_cons (pe_newk (T.nw 23 (ex1 "InvalidWish" "given" .v 25) rfl) hr (g_named_values_2 _ (.tail _ (.tail _ (.tail _ (.tail _ (.tail _ (.tail _ (.tail _ (.head _))))))))) (pv 0)) (pa_cons (pe_newk (T.nw 24 (ex1 "NotAreas" "given" .v 26) rfl) hr (g_named_values_3 _ (.head _)) (pv 0)) pa_nil))))) pa_nil)))
      (pss_cons (ps_expr (pe_bm PySem.F.plainAttrs_list PySem.F.slot_list_extend PySem.F.type_list_extend mt_extend (pv 1) (pa_cons (pe_lst (pa_cons (pe_newk (T.nw 25 (ex1 "NotACross" "given" .v 27) rfl) hr (g_named_values_3 _ (.tail _ (.head _))) (pv 0)) (pa_cons (pe_newk (T.nw 26 (ex1 "NotAPage" "given" .v 28) rfl) hr (g_named_values_3 _ (.tail _ (.tail _ (.head _)))) (pv 0)) (pa_cons (pe_newk (T.nw 27 (ex1 "NotAReport" "given" .v 29) rfl) hr (g_named_values_3 _ (.tail _ (.tail _ (.tail _ (.head _))))) (pv 0)) (pa_cons (pe_newk (T.nw 28 (ex1 "NotFaces" "given" .v 30) rfl) hr (g_named_values_3 _ (.tail _ (.tail _ (.tail _ (.tail _ (.head _)))))) (pv 0)) pa_nil))))) pa_nil)))
      (pss_cons (ps_expr (pe_bm PySem.F.plainAttrs_list PySem.F.slot_list_extend PySem.F.type_list_extend mt_extend (pv 1) (pa_cons (pe_lst (pa_cons (pe_newk (T.nw 29 (ex1 "NotAPoll" "given" .v 31) rfl) hr (g_named_values_3 _ (.tail _ (.tail _ (.tail _ (.tail _ (.tail _ (.head _))))))) (pv 0)) (pa_cons (pe_newk (T.nw 30 (ex1 "NotVotes" "given" .v 32) rfl) hr (g_named_values_3 _ (.tail _ (.tail _ (.tail _ (.tail _ (.tail _ (.tail _ (.head _)))))))) (pv 0)) (pa_cons (pe_newk (T.nw 31 (ex1 "NotAThing" "given" .v 33) rfl) hr (g_named_values_3 _ (.tail _ (.tail _ (.tail _ (.tail _ (.tail _ (.tail _ (.tail _ (.head _))))))))) (pv 0)) (pa_cons (pe_newk (T.nw 32 (ex1 "NotADesk" "given" .v 34) rfl) hr (g_named_values_4 _ (.head _)) (pv 0)) pa_nil))))) pa_nil)))
      (pss_one (ps_ret (pv 1)))))))))))), ?_⟩
    refine first_ok (i := 0) (j := 1) (l := cf K 0 3) rfl (Nat.le_trans (cf_le K _ _) (by decide)) fun p as0 H0 hp0 b0 q0 e0 => ?_
    refine extend_ok (i := 0) (j := 1) (p := p) (as := as0) (l := cf K 0 3) (l' := cf K 3 3) rfl rfl q0 e0 (by have := cf_le K 0 3; have := cf_le K 3 3; omega) fun as1 H1 q1 e1 c1 => ?_
    have b1 : Same H H1 := fun c o z => c1 c o (b0 c o z) (ne_of_none z hp0)
    have e1 := (congrArg (fun l => ExAll H1 v l (as0 ++ as1)) (cf_app K 0 3 3)).mp e1
    refine extend_ok (i := 0) (j := 1) (p := p) (as := (as0 ++ as1)) (l := cf K 0 6) (l' := cf K 6 3) rfl rfl q1 e1 (by have := cf_le K 0 6; have := cf_le K 6 3; omega) fun as2 H2 q2 e2 c2 => ?_
    have b2 : Same H H2 := fun c o z => c2 c o (b1 c o z) (ne_of_none z hp0)
    have e2 := (congrArg (fun l => ExAll H2 v l ((as0 ++ as1) ++ as2)) (cf_app K 0 6 3)).mp e2
    refine extend_ok (i := 0) (j := 1) (p := p) (as := ((as0 ++ as1) ++ as2)) (l := cf K 0 9) (l' := cf K 9 3) rfl rfl q2 e2 (by have := cf_le K 0 9; have := cf_le K 9 3; omega) fun as3 H3 q3 e3 c3 => ?_
    have b3 : Same H H3 := fun c o z => c3 c o (b2 c o z) (ne_of_none z hp0)
    have e3 := (congrArg (fun l => ExAll H3 v l (((as0 ++ as1) ++ as2) ++ as3)) (cf_app K 0 9 3)).mp e3
    refine extend_ok (i := 0) (j := 1) (p := p) (as := (((as0 ++ as1) ++ as2) ++ as3)) (l := cf K 0 12) (l' := cf K 12 3) rfl rfl q3 e3 (by have := cf_le K 0 12; have := cf_le K 12 3; omega) fun as4 H4 q4 e4 c4 => ?_
    have b4 : Same H H4 := fun c o z => c4 c o (b3 c o z) (ne_of_none z hp0)
    have e4 := (congrArg (fun l => ExAll H4 v l ((((as0 ++ as1) ++ as2) ++ as3) ++ as4)) (cf_app K 0 12 3)).mp e4
    refine extend_ok (i := 0) (j := 1) (p := p) (as := ((((as0 ++ as1) ++ as2) ++ as3) ++ as4)) (l := cf K 0 15) (l' := cf K 15 3) rfl rfl q4 e4 (by have := cf_le K 0 15; have := cf_le K 15 3; omega) fun as5 H5 q5 e5 c5 => ?_
    have b5 : Same H H5 := fun c o z => c5 c o (b4 c o z) (ne_of_none z hp0)
    have e5 := (congrArg (fun l => ExAll H5 v l (((((as0 ++ as1) ++ as2) ++ as3) ++ as4) ++ as5)) (cf_app K 0 15 3)).mp e5
    refine extend_ok (i := 0) (j := 1) (p := p) (as := (((((as0 ++ as1) ++ as2) ++ as3) ++ as4) ++ as5)) (l := cf K 0 18) (l' := cf K 18 3) rfl rfl q5 e5 (by have := cf_le K 0 18; have := cf_le K 18 3; omega) fun as6 H6 q6 e6 c6 => ?_
    have b6 : Same H H6 := fun c o z => c6 c o (b5 c o z) (ne_of_none z hp0)
    have e6 := (congrArg (fun l => ExAll H6 v l ((((((as0 ++ as1) ++ as2) ++ as3) ++ as4) ++ as5) ++ as6)) (cf_app K 0 18 3)).mp e6
    refine extend_ok (i := 0) (j := 1) (p := p) (as := ((((((as0 ++ as1) ++ as2) ++ as3) ++ as4) ++ as5) ++ as6)) (l := cf K 0 21) (l' := cf K 21 4) rfl rfl q6 e6 (by have := cf_le K 0 21; have := cf_le K 21 4; omega) fun as7 H7 q7 e7 c7 => ?_
    have b7 : Same H H7 := fun c o z => c7 c o (b6 c o z) (ne_of_none z hp0)
    have e7 := (congrArg (fun l => ExAll H7 v l (((((((as0 ++ as1) ++ as2) ++ as3) ++ as4) ++ as5) ++ as6) ++ as7)) (cf_app K 0 21 4)).mp e7
    refine extend_ok (i := 0) (j := 1) (p := p) (as := (((((((as0 ++ as1) ++ as2) ++ as3) ++ as4) ++ as5) ++ as6) ++ as7)) (l := cf K 0 25) (l' := cf K 25 4) rfl rfl q7 e7 (by have := cf_le K 0 25; have := cf_le K 25 4; omega) fun as8 H8 q8 e8 c8 => ?_
    have b8 : Same H H8 := fun c o z => c8 c o (b7 c o z) (ne_of_none z hp0)
    have e8 := (congrArg (fun l => ExAll H8 v l ((((((((as0 ++ as1) ++ as2) ++ as3) ++ as4) ++ as5) ++ as6) ++ as7) ++ as8)) (cf_app K 0 25 4)).mp e8
    refine extend_ok (i := 0) (j := 1) (p := p) (as := ((((((((as0 ++ as1) ++ as2) ++ as3) ++ as4) ++ as5) ++ as6) ++ as7) ++ as8)) (l := cf K 0 29) (l' := cf K 29 4) rfl rfl q8 e8 (by have := cf_le K 0 29; have := cf_le K 29 4; omega) fun as9 H9 q9 e9 c9 => ?_
    have b9 : Same H H9 := fun c o z => c9 c o (b8 c o z) (ne_of_none z hp0)
    have e9 := (congrArg (fun l => ExAll H9 v l (((((((((as0 ++ as1) ++ as2) ++ as3) ++ as4) ++ as5) ++ as6) ++ as7) ++ as8) ++ as9)) (cf_app K 0 29 4)).mp e9
    exact ⟨_, rfl, hQ p (((((((((as0 ++ as1) ++ as2) ++ as3) ++ as4) ++ as5) ++ as6) ++ as7) ++ as8) ++ as9) H9 hp0 b9 q9 e9⟩
theorem g_named_others_0 : ∀ x ∈ (["InvalidLines", "InvalidNames", "InvalidCells", "InvalidFacts", "InvalidShares", "InvalidFirsts", "InvalidPolls", "InvalidLog"] : List Str), (defScope s_named_others).names.lookup x = some .globalImplicit := by decide +kernel
theorem g_named_others_1 : ∀ x ∈ (["UnknownName", "InUse", "TooMany", "Broken"] : List Str), (defScope s_named_others).names.lookup x = some .globalImplicit := by decide +kernel
theorem sc_named_others : FnScope ["_law_odd_here", "_law_found"] ["_law_odd_here"] (defScope s_named_others) :=
  ⟨rfl, rfl, rfl, by decide +kernel, rfl, by decide +kernel, by decide +kernel⟩
theorem ok_named_others {f : Addr} {fd : FuncData} (F : Fun K "_law_named_others" "_law_named_others" s_named_others f fd) (T : Fx K mg) :
    FnOk P w K mg base CX0 3 f fd ["_law_odd_here"] (spMake K 33 12) := by
  refine F.ok sc_named_others (fun vs H Q E h => ?_) (fun cdv A outer s H vs Q E hr h => ?_)
  · obtain ⟨v, rfl, _⟩ := h
    rfl
  · obtain ⟨v, rfl, hQ⟩ := h
    refine ⟨_, pss_cons (ps_set (i := 1) sc_named_others.nd rfl (.inl rfl) (pe_lst (pa_cons (pe_newk (T.nw 33 (ex1 "InvalidLines" "index" .v 35) rfl) hr (g_named_others_0 _ (.head _)) (pv 0)) (pa_cons (pe_newk (T.nw 34 (ex1 "InvalidNames" "index" .v 36) rfl) hr (g_named_others_0 _ (.tail _ (.head _))) (pv 0)) (pa_cons (pe_newk (T.nw 35 (ex1 "InvalidCells" "index" .v 37) rfl) hr (g_named_others_0 _ (.tail _ (.tail _ (.head _)))) (pv 0)) pa_nil)))))
      (pss_cons (ps_expr (pe_bm PySem.F.plainAttrs_list PySem.F.slot_list_extend PySem.F.type_list_extend mt_extend (pv 1) (pa_cons (pe_lst (pa_cons (pe_newk (T.nw 36 (ex1 "InvalidFacts" "index" .v 38) rfl) hr (g_named_others_0 _ (.tail _ (.tail _ (.tail _ (.head _))))) (pv 0)) (pa_cons (pe_newk (T.nw 37 (ex1 "InvalidShares" "index" .v 39) rfl) hr (g_named_others_0 _ (.tail _ (.tail _ (.tail _ (.tail _ (.head _)))))) (pv 0)) (pa_cons (pe_newk (T.nw 38 (ex1 "InvalidFirsts" "index" .v 40) rfl) hr (g_named_others_0 _ (.tail _ (.tail _ (.tail _ (.tail _ (.tail _ (.head _))))))) (pv 0)) pa_nil)))) pa_nil)))
      (pss_cons (ps_expr (pe_bm PySem.F.plainAttrs_list PySem.F.slot_list_extend PySem.F.type_list_extend mt_extend (pv 1) (pa_cons (pe_lst (pa_cons (pe_newk (T.nw 39 (ex1 "InvalidPolls" "index" .v 41) rfl) hr (g_named_others_0 _ (.tail _ (.tail _ (.tail _ (.tail _ (.tail _ (.tail _ (.head _)))))))) (pv 0)) (pa_cons (pe_newk (T.nw 40 (ex1 "InvalidLog" "index" .v 42) rfl) hr (g_named_others_0 _ (.tail _ (.tail _ (.tail _ (.tail _ (.tail _ (.tail _ (.tail _ (.head _))))))))) (pv 0)) (pa_cons (pe_newk (T.nw 41 (ex1 "UnknownName" "given" .l 44) rfl) hr (g_named_others_1 _ (.head _)) (pv 0)) (pa_cons (pe_newk (T.nw 42 (ex1 "InUse" "index" .l 45) rfl) hr (g_named_others_1 _ (.tail _ (.head _))) (pv 0)) pa_nil))))) pa_nil)))
      (pss_cons (ps_expr (pe_bm PySem.F.plainAttrs_list PySem.F.slot_list_extend PySem.F.type_list_extend mt_extend (pv 1) (pa_cons (pe_lst (pa_cons (pe_newk (T.nw 43 (ex1 "TooMany" "given" .a 47) rfl) hr (g_named_others_1 _ (.tail _ (.tail _ (.head _)))) (pv 0)) (pa_cons (pe_newk (T.nw 44 (ex1 "Broken" "index" .a 48) rfl) hr (g_named_others_1 _ (.tail _ (.tail _ (.tail _ (.head _))))) (pv 0)) pa_nil))) pa_nil)))
      (pss_one (ps_ret (pv 1)))))), ?_⟩
    refine first_ok (i := 0) (j := 1) (l := cf K 33 3) rfl (Nat.le_trans (cf_le K _ _) (by decide)) fun p as0 H0 hp0 b0 q0 e0 => ?_
    refine extend_ok (i := 0) (j := 1) (p := p) (as := as0) (l := cf K 33 3) (l' := cf K 36 3) rfl rfl q0 e0 (by have := cf_le K 33 3; have := cf_le K 36 3; omega) fun as1 H1 q1 e1 c1 => ?_
    have b1 : Same H H1 := fun c o z => c1 c o (b0 c o z) (ne_of_none z hp0)
    have e1 := (congrArg (fun l => ExAll H1 v l (as0 ++ as1)) (cf_app K 33 3 3)).mp e1
    refine extend_ok (i := 0) (j := 1) (p := p) (as := (as0 ++ as1)) (l := cf K 33 6) (l' := cf K 39 4) rfl rfl q1 e1 (by have := cf_le K 33 6; have := cf_le K 39 4; omega) fun as2 H2 q2 e2 c2 => ?_
    have b2 : Same H H2 := fun c o z => c2 c o (b1 c o z) (ne_of_none z hp0)
    have e2 := (congrArg (fun l => ExAll H2 v l ((as0 ++ as1) ++ as2)) (cf_app K 33 6 4)).mp e2
    refine extend_ok (i := 0) (j := 1) (p := p) (as := ((as0 ++ as1) ++ as2)) (l := cf K 33 10) (l' := cf K 43 2) rfl rfl q2 e2 (by have := cf_le K 33 10; have := cf_le K 43 2; omega) fun as3 H3 q3 e3 c3 => ?_
    have b3 : Same H H3 := fun c o z => c3 c o (b2 c o z) (ne_of_none z hp0)
    have e3 := (congrArg (fun l => ExAll H3 v l (((as0 ++ as1) ++ as2) ++ as3)) (cf_app K 33 10 2)).mp e3
    exact ⟨_, rfl, hQ p (((as0 ++ as1) ++ as2) ++ as3) H3 hp0 b3 q3 e3⟩
end
end K01
namespace Tc
open PySem PySem.Spec PyProof.Rows L2 Evl
/-- at a an exception of the class at C -/
structure ExSt (H : Hp) (a C : Addr) (od : Option Addr) : Prop where
  ob : H a = some (exo a C od)
  di : ∀ d, od = some d → ∃ fs, H d = some (exd d fs)
theorem ExSt.mono {H H' : Hp} {a C : Addr} {od : Option Addr} (s : ∀ b o, H b = some o → (∀ xs, o ≠ .lst xs) → H' b = some o) (e : ExSt H a C od) : ExSt H' a C od :=
  ⟨s _ _ e.ob (fun _ z => nomatch (show HO.ext _ = HO.lst _ from z)), fun d h => by
    obtain ⟨fs, q⟩ := e.di d h
    exact ⟨fs, s _ _ q (fun _ z => nomatch (show HO.ext _ = HO.lst _ from z))⟩⟩
theorem ExSt.up {H H' : Hp} {a C : Addr} {od : Option Addr} (s : Ex H H') (e : ExSt H a C od) : ExSt H' a C od := e.mono fun b o h _ => s b o h
/-- isinstance(x, c), .. -/
def tIss (K : PySem.W.Frag) (te : TE) (cv : Nat → V) : List Nat → TA
  | [] => tNil
  | j :: l => tCons (tCB (rIsX K) (tCons te (tCons (tC (cv j)) tNil))) (tIss K te cv l)
theorem iss_ev {K : PySem.W.Frag} {σ : L2.St} {H : Hp} {s : Nat} {a C : Addr} {od : Option Addr} {cv : Nat → V} {b : Nat → Bool} (hs : σ[s]? = some (some (.ref a))) (he : ExSt H a C od) (hx : ExA K C) :
    ∀ l : List Nat, (∀ j ∈ l, ∃ u, ClsV (cv j) u ∧ PySem.W.kitOne K (.ref C) u = some (b j)) → EvA (tIss K (tVar s) cv l) σ H (l.map fun j => V.bl (b j))
  | [], _ => ea_nil
  | j :: l, h => ea_cons (fun H1 e Q q => by
      obtain ⟨u, h1, h2⟩ := h j (.head _)
      have z := he.up e
      exact ⟨_, hs, a, C, od, _, u, _, rfl, z.ob, z.di, hx, h1, h2, q H1 (Evl.Ex.refl H1)⟩) (iss_ev hs he hx l fun k hk => h k (.tail _ hk))
/-- found.extend([..]) -/
theorem s_ext {K : PySem.W.Frag} {D : Ends} {σ : L2.St} {H : Hp} {ta : TA} {j : Nat} {l : Addr} {xs ys : List V} (hs : σ[j]? = some (some (.ref l))) (hl : H l = some (.lst xs)) (h : EvA ta σ H ys) (hz : xs.length + ys.length ≤ 1000)
    (k : ∀ H1, H1 l = some (.lst (xs ++ ys)) → (∀ c o, H c = some o → c ≠ l → H1 c = some o) → D.nx σ H1) : tDrop (tBM K "list" rExtend (tVar j) (tCons (tLst ta) tNil)) D σ H := by
  refine ⟨_, hs, .inl ⟨rfl, _, SqL.of hl⟩, h H (Evl.Ex.refl H) _ fun H1 e1 => ⟨Nat.le_trans (by omega) (by decide : 1000 ≤ sizeLine), fun q hq => ?_⟩⟩
  have lq : l ≠ q := ne_of_none (e1 _ _ hl) hq
  refine ⟨l, q, _, _, rfl, rfl, by rw [upd_ne lq]; exact e1 _ _ hl, upd_same, Nat.le_trans hz (by decide), ?_⟩
  refine k _ upd_same fun c o z n => ?_
  rw [upd_ne n, upd_ne (ne_of_none (e1 c o z) hq)]
  exact e1 c o z
end Tc
namespace K01
open PySem PySem.Spec PyProof.Rows L2 Tc Evl
def cl (K : PySem.W.Frag) (j : Nat) : Addr := match alls[j]? with
  | some e => He.ga K e.1
  | none => 0
/-- the classes that isinstance is asked for -/
def cv (K : PySem.W.Frag) (j : Nat) : V := if j < 50 then .ref (cl K j) else if j = 50 then .ty "ValueError" else if j = 51 then .ty "LookupError" else .ty "ArithmeticError"
structure Kx (K : PySem.W.Frag) (mg : Str → Option Value) : Prop where
  cg : ∀ (j : Nat) (x : Str), alls[j]?.map (·.1) = some x → mg x = some (.ref (cl K j))
  kit : ∀ i j : Nat, i < 50 → j < 53 → ∃ u, ClsV (cv K j) u ∧ PySem.W.kitOne K (.ref (cl K i)) u = some (says i j)
  exa : ∀ i : Nat, i < 50 → ExA K (cl K i)
  ve : mg "ValueError" = none
  le : mg "LookupError" = none
  ae : mg "ArithmeticError" = none
section
variable {P : Program} {w : World} {K : PySem.W.Frag} {mg : Str → Option Value} {base : Heap}
/-- asked of an exception of the i-th class: a new list -/
def spAsk (K : PySem.W.Frag) (f : Nat → List V) : Sp := fun vs H Q _ => ∃ (a : Addr) (i : Nat) (od : Option Addr), vs = [.ref a] ∧ i < 50 ∧ ExSt H a (cl K i) od ∧
  ∀ (p : Addr) (H' : Hp), H p = none → Same H H' → H' p = some (.lst (f i)) → Q (.ref p) H'
def sorted (i : Nat) : List V := if i < 47 then [.int i] else []
theorem sorted_eq : ∀ i < 50, given 47 (fun k => says i k) (fun k => V.int k) = sorted i := by decide +kernel

theorem g_sort_0 : ∀ x ∈ (["isinstance", "len", "range", "InvalidText", "InvalidName", "InvalidNumber", "InvalidIndex", "InvalidStretch"] : List Str), (defScope s_sort).names.lookup x = some .globalImplicit := by decide +kernel
theorem g_sort_1 : ∀ x ∈ (["InvalidCount", "InvalidFilling", "InvalidCell", "InvalidTold", "InvalidPeople", "InvalidPlaces", "InvalidScale", "InvalidScores"] : List Str), (defScope s_sort).names.lookup x = some .globalImplicit := by decide +kernel
theorem g_sort_2 : ∀ x ∈ (["InvalidFact", "InvalidFace", "InvalidSpot", "InvalidBox", "InvalidShare", "InvalidPairs", "InvalidOrder", "InvalidProfile"] : List Str), (defScope s_sort).names.lookup x = some .globalImplicit := by decide +kernel
theorem g_sort_3 : ∀ x ∈ (["InvalidRule", "InvalidPlace", "InvalidWish", "NotAreas", "NotACross", "NotAPage", "NotAReport", "NotFaces"] : List Str), (defScope s_sort).names.lookup x = some .globalImplicit := by decide +kernel
theorem g_sort_4 : ∀ x ∈ (["NotAPoll", "NotVotes", "NotAThing", "NotADesk", "InvalidLines", "InvalidNames", "InvalidCells", "InvalidFacts"] : List Str), (defScope s_sort).names.lookup x = some .globalImplicit := by decide +kernel
theorem g_sort_5 : ∀ x ∈ (["InvalidShares", "InvalidFirsts", "InvalidPolls", "InvalidLog", "UnknownName", "InUse", "TooMany", "Broken"] : List Str), (defScope s_sort).names.lookup x = some .globalImplicit := by decide +kernel
theorem g_sort_6 : ∀ x ∈ (["NoData", "NothingToUndo"] : List Str), (defScope s_sort).names.lookup x = some .globalImplicit := by decide +kernel
theorem sc_sort : FnScope ["_law_e", "_law_found", "_law_k"] ["_law_e"] (defScope s_sort) :=
  ⟨rfl, rfl, rfl, by decide +kernel, rfl, by decide +kernel, by decide +kernel⟩
theorem ok_sort {f : Addr} {fd : FuncData} (F : Fun K "_law_sort" "_law_sort" s_sort f fd) (T : Kx K mg) (B : Bl mg) :
    FnOk P w K mg base CX0 3 f fd ["_law_e"] (spAsk K sorted) := by
  refine F.ok sc_sort (fun vs H Q E h => ?_) (fun cdv A outer s H vs Q E hr h => ?_)
  · obtain ⟨a, i, od, rfl, _⟩ := h
    rfl
  · obtain ⟨a, i, od, rfl, hi, he, hQ⟩ := h
    refine ⟨_, pss_cons (ps_set (i := 1) sc_sort.nd rfl (.inr rfl) (pe_lst (pa_cons (pe_callB call_isX (g_sort_0 _ (.head _)) B.isinstance (by decide +kernel) (pa_cons (pv 0) (pa_cons (pe_glob (v := cv K 0) (g_sort_0 _ (.tail _ (.tail _ (.tail _ (.head _))))) (T.cg 0 "InvalidText" rfl) rfl) pa_nil))) (pa_cons (pe_callB call_isX (g_sort_0 _ (.head _)) B.isinstance (by decide +kernel) (pa_cons (pv 0) (pa_cons (pe_glob (v := cv K 1) (g_sort_0 _ (.tail _ (.tail _ (.tail _ (.tail _ (.head _)))))) (T.cg 1 "InvalidName" rfl) rfl) pa_nil))) (pa_cons (pe_callB call_isX (g_sort_0 _ (.head _)) B.isinstance (by decide +kernel) (pa_cons (pv 0) (pa_cons (pe_glob (v := cv K 2) (g_sort_0 _ (.tail _ (.tail _ (.tail _ (.tail _ (.tail _ (.head _))))))) (T.cg 2 "InvalidNumber" rfl) rfl) pa_nil))) pa_nil)))))
      (pss_cons (ps_expr (pe_bm PySem.F.plainAttrs_list PySem.F.slot_list_extend PySem.F.type_list_extend mt_extend (pv 1) (pa_cons (pe_lst (pa_cons (pe_callB call_isX (g_sort_0 _ (.head _)) B.isinstance (by decide +kernel) (pa_cons (pv 0) (pa_cons (pe_glob (v := cv K 3) (g_sort_0 _ (.tail _ (.tail _ (.tail _ (.tail _ (.tail _ (.tail _ (.head _)))))))) (T.cg 3 "InvalidIndex" rfl) rfl) pa_nil))) (pa_cons (pe_callB call_isX (g_sort_0 _ (.head _)) B.isinstance (by decide +kernel) (pa_cons (pv 0) (pa_cons (pe_glob (v := cv K 4) (g_sort_0 _ (.tail _ (.tail _ (.tail _ (.tail _ (.tail _ (.tail _ (.tail _ (.head _))))))))) (T.cg 4 "InvalidStretch" rfl) rfl) pa_nil))) (pa_cons (pe_callB call_isX (g_sort_0 _ (.head _)) B.isinstance (by decide +kernel) (pa_cons (pv 0) (pa_cons (pe_glob (v := cv K 5) (g_sort_1 _ (.head _)) (T.cg 5 "InvalidCount" rfl) rfl) pa_nil))) pa_nil)))) pa_nil)))
      (pss_cons (ps_expr (pe_bm PySem.F.plainAttrs_list PySem.F.slot_list_extend PySem.F.type_list_extend mt_extend (pv 1) (pa_cons (pe_lst (pa_cons (pe_callB call_isX (g_sort_0 _ (.head _)) B.isinstance (by decide +kernel) (pa_cons (pv 0) (pa_cons (pe_glob (v := cv K 6) (g_sort_1 _ (.tail _ (.head _))) (T.cg 6 "InvalidFilling" rfl) rfl) pa_nil))) (pa_cons (pe_callB call_isX (g_sort_0 _ (.head _)) B.isinstance (by decide +kernel) (pa_cons (pv 0) (pa_cons (pe_glob (v := cv K 7) (g_sort_1 _ (.tail _ (.tail _ (.head _)))) (T.cg 7 "InvalidCell" rfl) rfl) pa_nil))) (pa_cons (pe_callB call_isX (g_sort_0 _ (.head _)) B.isinstance (by decide +kernel) (pa_cons (pv 0) (pa_cons (pe_glob (v := cv K 8) (g_sort_1 _ (.tail _ (.tail _ (.tail _ (.head _))))) (T.cg 8 "InvalidTold" rfl) rfl) pa_nil))) pa_nil)))) pa_nil)))
      (pss_cons (ps_expr (pe_bm PySem.F.plainAttrs_list PySem.F.slot_list_extend PySem.F.type_list_extend mt_extend (pv 1) (pa_cons (pe_lst (pa_cons (pe_callB call_isX (g_sort_0 _ (.head _)) B.isinstance (by decide +kernel) (pa_cons (pv 0) (pa_cons (pe_glob (v := cv K 9) (g_sort_1 _ (.tail _ (.tail _ (.tail _ (.tail _ (.head _)))))) (T.cg 9 "InvalidPeople" rfl) rfl) pa_nil))) (pa_cons (pe_callB call_isX (g_sort_0 _ (.head _)) B.isinstance (by decide +kernel) (pa_cons (pv 0) (pa_cons (pe_glob (v := cv K 10) (g_sort_1 _ (.tail _ (.tail _ (.tail _ (.tail _ (.tail _ (.head _))))))) (T.cg 10 "InvalidPlaces" rfl) rfl) pa_nil))) (pa_cons (pe_callB call_isX (g_sort_0 _ (.head _)) B.isinstance (by decide +kernel) (pa_cons (pv 0) (pa_cons (pe_glob (v := cv K 11) (g_sort_1 _ (.tail _ (.tail _ (.tail _ (.tail _ (.tail _ (.tail _ (.head _)))))))) (T.cg 11 "InvalidScale" rfl) rfl) pa_nil))) pa_nil)))) pa_nil)))
      (pss_cons (ps_expr (pe_bm PySem.F.plainAttrs_list PySem.F.slot_list_extend PySem.F.type_list_extend mt_extend (pv 1) (pa_cons (pe_lst (pa_cons (pe_callB call_isX (g_sort_0 _ (.head _)) B.isinstance (by decide +kernel) (pa_cons (pv 0) (pa_cons (pe_glob (v := cv K 12) (g_sort_1 _ (.tail _ (.tail _ (.tail _ (.tail _ (.tail _ (.tail _ (.tail _ (.head _))))))))) (T.cg 12 "InvalidScores" rfl) rfl) pa_nil))) (pa_cons (pe_callB call_isX (g_sort_0 _ (.head _)) B.isinstance (by decide +kernel) (pa_cons (pv 0) (pa_cons (pe_glob (v := cv K 13) (g_sort_2 _ (.head _)) (T.cg 13 "InvalidFact" rfl) rfl) pa_nil))) (pa_cons (pe_callB call_isX (g_sort_0 _ (.head _)) B.isinstance (by decide +kernel) (pa_cons (pv 0) (pa_cons (pe_glob (v := cv K 14) (g_sort_2 _ (.tail _ (.head _))) (T.cg 14 "InvalidFace" rfl) rfl) pa_nil))) pa_nil)))) pa_nil)))
      (pss_cons (ps_expr (pe_bm PySem.F.plainAttrs_list PySem.F.slot_list_extend PySem.F.type_list_extend mt_extend (pv 1) (pa_cons (pe_lst (pa_cons (pe_callB call_isX (g_sort_0 _ (.head _)) B.isinstance (by decide +kernel) (pa_cons (pv 0) (pa_cons (pe_glob (v := cv K 15) (g_sort_2 _ (.tail _ (.tail _ (.head _)))) (T.cg 15 "InvalidSpot" rfl) rfl) pa_nil))) (pa_cons (pe_callB call_isX (g_sort_0 _ (.head _)) B.isinstance (by decide +kernel) (pa_cons (pv 0) (pa_cons (pe_glob (v := cv K 16) (g_sort_2 _ (.tail _ (.tail _ (.tail _ (.head _))))) (T.cg 16 "InvalidBox" rfl) rfl) pa_nil))) (pa_cons (pe_callB call_isX (g_sort_0 _ (.head _)) B.isinstance (by decide +kernel) (pa_cons (pv 0) (pa_cons (pe_glob (v := cv K 17) (g_sort_2 _ (.tail _ (.tail _ (.tail _ (.tail _ (.head _)))))) (T.cg 17 "InvalidShare" rfl) rfl) pa_nil))) pa_nil)))) pa_nil)))
      (pss_cons (ps_expr (pe_bm PySem.F.plainAttrs_list PySem.F.slot_list_extend PySem.F.type_list_extend mt_extend (pv 1) (pa_cons (pe_lst (pa_cons (pe_callB call_isX (g_sort_0 _ (.head _)) B.isinstance (by decide +kernel) (pa_cons (pv 0) (pa_cons (pe_glob (v := cv K 18) (g_sort_2 _ (.tail _ (.tail _ (.tail _ (.tail _ (.tail _ (.head _))))))) (T.cg 18 "InvalidPairs" rfl) rfl) pa_nil))) (pa_cons (pe_callB call_isX (g_sort_0 _ (.head _)) B.isinstance (by decide +kernel) (pa_cons (pv 0) (pa_cons (pe_glob (v := cv K 19) (g_sort_2 _ (.tail _ (.tail _ (.tail _ (.tail _ (.tail _ (.tail _ (.head _)))))))) (T.cg 19 "InvalidOrder" rfl) rfl) pa_nil))) (pa_cons (pe_callB call_isX (g_sort_0 _ (.head _)) B.isinstance (by decide +kernel) (pa_cons (pv 0) (pa_cons (pe_glob (v := cv K 20) (g_sort_2 _ (.tail _ (.tail _ (.tail _ (.tail _ (.tail _ (.tail _ (.tail _ (.head _))))))))) (T.cg 20 "InvalidProfile" rfl) rfl) pa_nil))) pa_nil)))) pa_nil)))
      (pss_cons (ps_expr (pe_bm PySem.F.plainAttrs_list PySem.F.slot_list_extend PySem.F.type_list_extend mt_extend (pv 1) (pa_cons (pe_lst (pa_cons (pe_callB call_isX (g_sort_0 _ (.head _)) B.isinstance (by decide +kernel) (pa_cons (pv 0) (pa_cons (pe_glob (v := cv K 21) (g_sort_3 _ (.head _)) (T.cg 21 "InvalidRule" rfl) rfl) pa_nil))) (pa_cons (pe_callB call_isX (g_sort_0 _ (.head _)) B.isinstance (by decide +kernel) (pa_cons (pv 0) (pa_cons (pe_glob (v := cv K 22) (g_sort_3 _ (.tail _ (.head _))) (T.cg 22 "InvalidPlace" rfl) rfl) pa_nil))) (pa_cons (pe_callB call_isX (g_sort_0 _ (.head _)) B.isinstance (by decide +kernel) (pa_cons (pv 0) (pa_cons (pe_glob (v := cv K 23) (g_sort_3 _ (.tail _ (.tail _ (.head _)))) (T.cg 23 "InvalidWish" rfl) rfl) pa_nil))) pa_nil)))) pa_nil)))
      (pss_cons (ps_expr (pe_bm PySem.F.plainAttrs_list PySem.F.slot_list_extend PySem.F.type_list_extend mt_extend (pv 1) (pa_cons (pe_lst (pa_cons (pe_callB call_isX (g_sort_0 _ (.head _)) B.isinstance (by decide +kernel) (pa_cons (pv 0) (pa_cons (pe_glob (v := cv K 24) (g_sort_3 _ (.tail _ (.tail _ (.tail _ (.head _))))) (T.cg 24 "NotAreas" rfl) rfl) pa_nil))) (pa_cons (pe_callB call_isX (g_sort_0 _ (.head _)) B.isinstance (by decide +kernel) (pa_cons (pv 0) (pa_cons (pe_glob (v := cv K 25) (g_sort_3 _ (.tail _ (.tail _ (.tail _ (.tail _ (.head _)))))) (T.cg 25 "NotACross" rfl) rfl) pa_nil))) (pa_cons (pe_callB call_isX (g_sort_0 _ (.head _)) B.isinstance (by decide +kernel) (pa_cons (pv 0) (pa_cons (pe_glob (v := cv K 26) (g_sort_3 _ (.tail _ (.tail _ (.tail _ (.tail _ (.tail _ (.head _))))))) (T.cg 26 "NotAPage" rfl) rfl) pa_nil))) pa_nil)))) pa_nil)))
      (pss_cons (ps_expr (pe_bm PySem.F.plainAttrs_list PySem.F.slot_list_extend PySem.F.type_list_extend mt_extend (pv 1) (pa_cons (pe_lst (pa_cons (pe_callB call_isX (g_sort_0 _ (.head _)) B.isinstance (by decide +kernel) (pa_cons (pv 0) (pa_cons (pe_glob (v := cv K 27) (g_sort_3 _ (.tail _ (.tail _ (.tail _ (.tail _ (.tail _ (.tail _ (.head _)))))))) (T.cg 27 "NotAReport" rfl) rfl) pa_nil))) (pa_cons (pe_callB call_isX (g_sort_0 _ (.head _)) B.isinstance (by decide +kernel) (pa_cons (pv 0) (pa_cons (pe_glob (v := cv K 28) (g_sort_3 _ (.tail _ (.tail _ (.tail _ (.tail _ (.tail _ (.tail _ (.tail _ (.head _))))))))) (T.cg 28 "NotFaces" rfl) rfl) pa_nil))) (pa_cons (pe_callB call_isX (g_sort_0 _ (.head _)) B.isinstance (by decide +kernel) (pa_cons (pv 0) (pa_cons (pe_glob (v := cv K 29) (g_sort_4 _ (.head _)) (T.cg 29 "NotAPoll" rfl) rfl) pa_nil))) pa_nil)))) pa_nil)))
      (pss_cons (ps_expr (pe_bm PySem.F.plainAttrs_list PySem.F.slot_list_extend PySem.F.type_list_extend mt_extend (pv 1) (pa_cons (pe_lst (pa_cons (pe_callB call_isX (g_sort_0 _ (.head _)) B.isinstance (by decide +kernel) (pa_cons (pv 0) (pa_cons (pe_glob (v := cv K 30) (g_sort_4 _ (.tail _ (.head _))) (T.cg 30 "NotVotes" rfl) rfl) pa_nil))) (pa_cons (pe_callB call_isX (g_sort_0 _ (.head _)) B.isinstance (by decide +kernel) (pa_cons (pv 0) (pa_cons (pe_glob (v := cv K 31) (g_sort_4 _ (.tail _ (.tail _ (.head _)))) (T.cg 31 "NotAThing" rfl) rfl) pa_nil))) (pa_cons (pe_callB call_isX (g_sort_0 _ (.head _)) B.isinstance (by decide +kernel) (pa_cons (pv 0) (pa_cons (pe_glob (v := cv K 32) (g_sort_4 _ (.tail _ (.tail _ (.tail _ (.head _))))) (T.cg 32 "NotADesk" rfl) rfl) pa_nil))) pa_nil)))) pa_nil)))
      (pss_cons (ps_expr (pe_bm PySem.F.plainAttrs_list PySem.F.slot_list_extend PySem.F.type_list_extend mt_extend (pv 1) (pa_cons (pe_lst (pa_cons (pe_callB call_isX (g_sort_0 _ (.head _)) B.isinstance (by decide +kernel) (pa_cons (pv 0) (pa_cons (pe_glob (v := cv K 33) (g_sort_4 _ (.tail _ (.tail _ (.tail _ (.tail _ (.head _)))))) (T.cg 33 "InvalidLines" rfl) rfl) pa_nil))) (pa_cons (pe_callB call_isX (g_sort_0 _ (.head _)) B.isinstance (by decide +kernel) (pa_cons (pv 0) (pa_cons (pe_glob (v := cv K 34) (g_sort_4 _ (.tail _ (.tail _ (.tail _ (.tail _ (.tail _ (.head _))))))) (T.cg 34 "InvalidNames" rfl) rfl) pa_nil))) (pa_cons (pe_callB call_isX (g_sort_0 _ (.head _)) B.isinstance (by decide +kernel) (pa_cons (pv 0) (pa_cons (pe_glob (v := cv K 35) (g_sort_4 _ (.tail _ (.tail _ (.tail _ (.tail _ (.tail _ (.tail _ (.head _)))))))) (T.cg 35 "InvalidCells" rfl) rfl) pa_nil))) pa_nil)))) pa_nil)))
      (pss_cons (ps_expr (pe_bm PySem.F.plainAttrs_list PySem.F.slot_list_extend PySem.F.type_list_extend mt_extend (pv 1) (pa_cons (pe_lst (pa_cons (pe_callB call_isX (g_sort_0 _ (.head _)) B.isinstance (by decide +kernel) (pa_cons (pv 0) (pa_cons (pe_glob (v := cv K 36) (g_sort_4 _ (.tail _ (.tail _ (.tail _ (.tail _ (.tail _ (.tail _ (.tail _ (.head _))))))))) (T.cg 36 "InvalidFacts" rfl) rfl) pa_nil))) (pa_cons (pe_callB call_isX (g_sort_0 _ (.head _)) B.isinstance (by decide +kernel) (pa_cons (pv 0) (pa_cons (pe_glob (v := cv K 37) (g_sort_5 _ (.head _)) (T.cg 37 "InvalidShares" rfl) rfl) pa_nil))) (pa_cons (pe_callB call_isX (g_sort_0 _ (.head _)) B.isinstance (by decide +kernel) (pa_cons (pv 0) (pa_cons (pe_glob (v := cv K 38) (g_sort_5 _ (.tail _ (.head _))) (T.cg 38 "InvalidFirsts" rfl) rfl) pa_nil))) pa_nil)))) pa_nil)))
      (pss_cons (ps_expr (pe_bm PySem.F.plainAttrs_list PySem.F.slot_list_extend PySem.F.type_list_extend mt_extend (pv 1) (pa_cons (pe_lst (pa_cons (pe_callB call_isX (g_sort_0 _ (.head _)) B.isinstance (by decide +kernel) (pa_cons (pv 0) (pa_cons (pe_glob (v := cv K 39) (g_sort_5 _ (.tail _ (.tail _ (.head _)))) (T.cg 39 "InvalidPolls" rfl) rfl) pa_nil))) (pa_cons (pe_callB call_isX (g_sort_0 _ (.head _)) B.isinstance (by decide +kernel) (pa_cons (pv 0) (pa_cons (pe_glob (v := cv K 40) (g_sort_5 _ (.tail _ (.tail _ (.tail _ (.head _))))) (T.cg 40 "InvalidLog" rfl) rfl) pa_nil))) (pa_cons (pe_callB call_isX (g_sort_0 _ (.head _)) B.isinstance (by decide +kernel) (pa_cons (pv 0) (pa_cons (pe_glob (v := cv K 41) (g_sort_5 _ (.tail _ (.tail _ (.tail _ (.tail _ (.head _)))))) (T.cg 41 "UnknownName" rfl) rfl) pa_nil))) pa_nil)))) pa_nil)))
      (pss_cons (ps_expr (pe_bm PySem.F.plainAttrs_list PySem.F.slot_list_extend PySem.F.type_list_extend mt_extend (pv 1) (pa_cons (pe_lst (pa_cons (pe_callB call_isX (g_sort_0 _ (.head _)) B.isinstance (by decide +kernel) (pa_cons (pv 0) (pa_cons (pe_glob (v := cv K 42) (g_sort_5 _ (.tail _ (.tail _ (.tail _ (.tail _ (.tail _ (.head _))))))) (T.cg 42 "InUse" rfl) rfl) pa_nil))) (pa_cons (pe_callB call_isX (g_sort_0 _ (.head _)) B.isinstance (by decide +kernel) (pa_cons (pv 0) (pa_cons (pe_glob (v := cv K 43) (g_sort_5 _ (.tail _ (.tail _ (.tail _ (.tail _ (.tail _ (.tail _ (.head _)))))))) (T.cg 43 "TooMany" rfl) rfl) pa_nil))) (pa_cons (pe_callB call_isX (g_sort_0 _ (.head _)) B.isinstance (by decide +kernel) (pa_cons (pv 0) (pa_cons (pe_glob (v := cv K 44) (g_sort_5 _ (.tail _ (.tail _ (.tail _ (.tail _ (.tail _ (.tail _ (.tail _ (.head _))))))))) (T.cg 44 "Broken" rfl) rfl) pa_nil))) (pa_cons (pe_callB call_isX (g_sort_0 _ (.head _)) B.isinstance (by decide +kernel) (pa_cons (pv 0) (pa_cons (pe_glob (v := cv K 45) (g_sort_6 _ (.head _)) (T.cg 45 "NoData" rfl) rfl) pa_nil))) pa_nil))))) pa_nil)))
      (pss_cons (ps_expr (pe_bm PySem.F.plainAttrs_list PySem.F.slot_list_extend PySem.F.type_list_extend mt_extend (pv 1) (pa_cons (pe_lst (pa_cons (pe_callB call_isX (g_sort_0 _ (.head _)) B.isinstance (by decide +kernel) (pa_cons (pv 0) (pa_cons (pe_glob (v := cv K 46) (g_sort_6 _ (.tail _ (.head _))) (T.cg 46 "NothingToUndo" rfl) rfl) pa_nil))) pa_nil)) pa_nil)))
      (pss_one (ps_ret (pe_lc (own := [("_law_k", 2)]) (g := gName 2) rfl sc_sort.nd (pi_range1 (g_sort_0 _ (.tail _ (.tail _ (.head _)))) B.range (pa_cons (pe_callB call_len (g_sort_0 _ (.tail _ (.head _))) B.len (by decide +kernel) (pa_cons (pv 1) pa_nil)) pa_nil))
      (blkOk_by (own := [("_law_k", 2)]) (N := ["_law_e", "_law_found", "_law_k"]) (sc := defScope s_sort) (by decide +kernel)) (fun _ _ _ _ _ => pg_name (i := 2) sc_sort.nd rfl (.inl rfl))
      (fun _ _ _ _ _ => pts_one (pt_val (pe_ix (r := rIxL K) ix_list (pv 1) (pv 2) (fun _ _ => rfl)))) (fun _ _ _ _ _ => pv 2))))))))))))))))))), ?_⟩
    have kt : ∀ (l : List Nat), (∀ j ∈ l, j < 47) → ∀ j ∈ l, ∃ u, ClsV (cv K j) u ∧ PySem.W.kitOne K (.ref (cl K i)) u = some (says i j) := fun l h j hj => T.kit i j hi (by have := h j hj; omega)
    have xa := T.exa i hi
    refine q_asgL (el_lst (iss_ev (s := 0) (K := K) (cv := cv K) (by rfl) he xa [0, 1, 2] (kt _ (by decide))) (by rw [List.length_map]; decide)) fun p H0 hp0 b0 q0 => ?_
    have e0 := he.up b0
    refine s_ext (K := K) (j := 1) (l := p) (by rfl) q0 (iss_ev (s := 0) (K := K) (cv := cv K) (by rfl) e0 xa [3, 4, 5] (kt _ (by decide))) (by simp only [List.length_append, List.length_map]; decide) fun H1 q1 c1 => ?_
    have b1 : Same H H1 := fun c o z => c1 c o (b0 c o z) (ne_of_none z hp0)
    have e1 := e0.mono (but_ex q0 c1)
    refine s_ext (K := K) (j := 1) (l := p) (by rfl) q1 (iss_ev (s := 0) (K := K) (cv := cv K) (by rfl) e1 xa [6, 7, 8] (kt _ (by decide))) (by simp only [List.length_append, List.length_map]; decide) fun H2 q2 c2 => ?_
    have b2 : Same H H2 := fun c o z => c2 c o (b1 c o z) (ne_of_none z hp0)
    have e2 := e1.mono (but_ex q1 c2)
    refine s_ext (K := K) (j := 1) (l := p) (by rfl) q2 (iss_ev (s := 0) (K := K) (cv := cv K) (by rfl) e2 xa [9, 10, 11] (kt _ (by decide))) (by simp only [List.length_append, List.length_map]; decide) fun H3 q3 c3 => ?_
    have b3 : Same H H3 := fun c o z => c3 c o (b2 c o z) (ne_of_none z hp0)
    have e3 := e2.mono (but_ex q2 c3)
    refine s_ext (K := K) (j := 1) (l := p) (by rfl) q3 (iss_ev (s := 0) (K := K) (cv := cv K) (by rfl) e3 xa [12, 13, 14] (kt _ (by decide))) (by simp only [List.length_append, List.length_map]; decide) fun H4 q4 c4 => ?_
    have b4 : Same H H4 := fun c o z => c4 c o (b3 c o z) (ne_of_none z hp0)
    have e4 := e3.mono (but_ex q3 c4)
    refine s_ext (K := K) (j := 1) (l := p) (by rfl) q4 (iss_ev (s := 0) (K := K) (cv := cv K) (by rfl) e4 xa [15, 16, 17] (kt _ (by decide))) (by simp only [List.length_append, List.length_map]; decide) fun H5 q5 c5 => ?_
    have b5 : Same H H5 := fun c o z => c5 c o (b4 c o z) (ne_of_none z hp0)
    have e5 := e4.mono (but_ex q4 c5)
    refine s_ext (K := K) (j := 1) (l := p) (by rfl) q5 (iss_ev (s := 0) (K := K) (cv := cv K) (by rfl) e5 xa [18, 19, 20] (kt _ (by decide))) (by simp only [List.length_append, List.length_map]; decide) fun H6 q6 c6 => ?_
    have b6 : Same H H6 := fun c o z => c6 c o (b5 c o z) (ne_of_none z hp0)
    have e6 := e5.mono (but_ex q5 c6)
    refine s_ext (K := K) (j := 1) (l := p) (by rfl) q6 (iss_ev (s := 0) (K := K) (cv := cv K) (by rfl) e6 xa [21, 22, 23] (kt _ (by decide))) (by simp only [List.length_append, List.length_map]; decide) fun H7 q7 c7 => ?_
    have b7 : Same H H7 := fun c o z => c7 c o (b6 c o z) (ne_of_none z hp0)
    have e7 := e6.mono (but_ex q6 c7)
    refine s_ext (K := K) (j := 1) (l := p) (by rfl) q7 (iss_ev (s := 0) (K := K) (cv := cv K) (by rfl) e7 xa [24, 25, 26] (kt _ (by decide))) (by simp only [List.length_append, List.length_map]; decide) fun H8 q8 c8 => ?_
    have b8 : Same H H8 := fun c o z => c8 c o (b7 c o z) (ne_of_none z hp0)
    have e8 := e7.mono (but_ex q7 c8)
    refine s_ext (K := K) (j := 1) (l := p) (by rfl) q8 (iss_ev (s := 0) (K := K) (cv := cv K) (by rfl) e8 xa [27, 28, 29] (kt _ (by decide))) (by simp only [List.length_append, List.length_map]; decide) fun H9 q9 c9 => ?_
    have b9 : Same H H9 := fun c o z => c9 c o (b8 c o z) (ne_of_none z hp0)
    have e9 := e8.mono (but_ex q8 c9)
    refine s_ext (K := K) (j := 1) (l := p) (by rfl) q9 (iss_ev (s := 0) (K := K) (cv := cv K) (by rfl) e9 xa [30, 31, 32] (kt _ (by decide))) (by simp only [List.length_append, List.length_map]; decide) fun H10 q10 c10 => ?_
    have b10 : Same H H10 := fun c o z => c10 c o (b9 c o z) (ne_of_none z hp0)
    have e10 := e9.mono (but_ex q9 c10)
    refine s_ext (K := K) (j := 1) (l := p) (by rfl) q10 (iss_ev (s := 0) (K := K) (cv := cv K) (by rfl) e10 xa [33, 34, 35] (kt _ (by decide))) (by simp only [List.length_append, List.length_map]; decide) fun H11 q11 c11 => ?_
    have b11 : Same H H11 := fun c o z => c11 c o (b10 c o z) (ne_of_none z hp0)
    have e11 := e10.mono (but_ex q10 c11)
    refine s_ext (K := K) (j := 1) (l := p) (by rfl) q11 (iss_ev (s := 0) (K := K) (cv := cv K) (by rfl) e11 xa [36, 37, 38] (kt _ (by decide))) (by simp only [List.length_append, List.length_map]; decide) fun H12 q12 c12 => ?_
    have b12 : Same H H12 := fun c o z => c12 c o (b11 c o z) (ne_of_none z hp0)
    have e12 := e11.mono (but_ex q11 c12)
    refine s_ext (K := K) (j := 1) (l := p) (by rfl) q12 (iss_ev (s := 0) (K := K) (cv := cv K) (by rfl) e12 xa [39, 40, 41] (kt _ (by decide))) (by simp only [List.length_append, List.length_map]; decide) fun H13 q13 c13 => ?_
    have b13 : Same H H13 := fun c o z => c13 c o (b12 c o z) (ne_of_none z hp0)
    have e13 := e12.mono (but_ex q12 c13)
    refine s_ext (K := K) (j := 1) (l := p) (by rfl) q13 (iss_ev (s := 0) (K := K) (cv := cv K) (by rfl) e13 xa [42, 43, 44, 45] (kt _ (by decide))) (by simp only [List.length_append, List.length_map]; decide) fun H14 q14 c14 => ?_
    have b14 : Same H H14 := fun c o z => c14 c o (b13 c o z) (ne_of_none z hp0)
    have e14 := e13.mono (but_ex q13 c14)
    refine s_ext (K := K) (j := 1) (l := p) (by rfl) q14 (iss_ev (s := 0) (K := K) (cv := cv K) (by rfl) e14 xa [46] (kt _ (by decide))) (by simp only [List.length_append, List.length_map]; decide) fun H15 q15 c15 => ?_
    have b15 : Same H H15 := fun c o z => c15 c o (b14 c o z) (ne_of_none z hp0)
    have e15 := e14.mono (but_ex q14 c15)
    have q : H15 p = some (.lst ((List.range 47).map fun j => V.bl (says i j))) := q15
    have fin : tRet (tLc (iRng1 (tCons (tCB (fun xs H Q => ∃ x n, xs = [x] ∧ LenV K x H n ∧ Q (.int (n : Nat)) H) (tCons (tVar 1) tNil)) tNil)) (gName 2) (tB (tOp (rIxL K) (tVar 1) (tVar 2))) (tVar 2) [2])
        { nx := fun _ H' => Q .non H', rt := Q } [some (.ref a), some (.ref p), none] H15 := by
      refine s_retL (xs := given (47 : Int).toNat (fun k => says i k) (fun k => V.int k)) (el_lcR1 (n := 47) (fun k => says i k) (fun k => V.int k) (fun H1 e Q z => ?_) (by decide) (fun _ => rfl) (fun k H1 e hk => ?_) (fun k H1 e hk _ => ?_)) (fun z H1 hz b hzl => ?_)
      · exact ⟨_, rfl, _, 47, rfl, .inl ⟨_, .inl (.inl (e _ _ q)), rfl⟩, z H1 (Evl.Ex.refl H1)⟩
      · refine et_B (ev_op (x := .ref p) (y := .int (k : Int)) (ev_var rfl) (ev_var rfl) (rv_ixL (xs := (List.range 47).map fun j => V.bl (says i j)) (.inl (.inl (e _ _ q))) (atI_nat ?_)))
        rw [List.getElem?_map, List.getElem?_range (by omega)]
        rfl
      · exact ev_var rfl
      · exact hQ z H1 (b15.free hz) (fun c o y => b c o (b15 c o y)) (by rw [hzl]; exact congrArg (fun l => some (HO.lst l)) (sorted_eq i hi))
    exact fin
end
end K01
namespace K01
open PySem PySem.Spec PyProof.Rows L2 Tc Evl
section
variable {P : Program} {w : World} {K : PySem.W.Frag} {mg : Str → Option Value} {base : Heap}
theorem sc_bases : FnScope ["_law_e", "_law_found"] ["_law_e"] (defScope s_bases) := ⟨rfl, rfl, rfl, by decide +kernel, rfl, by decide +kernel, by decide +kernel⟩
theorem g_bases : ∀ x ∈ (["isinstance", "WrongValue", "WrongName", "NotPossible", "ValueError", "LookupError", "ArithmeticError"] : List Str), (defScope s_bases).names.lookup x = some .globalImplicit := by decide +kernel
def based (i : Nat) : List V := [47, 48, 49, 50, 51, 52].map fun j => V.bl (says i j)
theorem ok_bases {f : Addr} {fd : FuncData} (F : Fun K "_law_bases" "_law_bases" s_bases f fd) (T : Kx K mg) (B : Bl mg) :
    FnOk P w K mg base CX0 3 f fd ["_law_e"] (spAsk K based) := by
  refine F.ok sc_bases (fun vs H Q E h => ?_) (fun cdv A outer s H vs Q E hr h => ?_)
  · obtain ⟨a, i, od, rfl, _⟩ := h
    rfl
  · obtain ⟨a, i, od, rfl, hi, he, hQ⟩ := h
    have gi := g_bases "isinstance" (.head _)
    refine ⟨_, pss_cons (ps_set (i := 1) sc_bases.nd rfl (.inl rfl) (pe_lst
        (pa_cons (pe_callB call_isX gi B.isinstance (by decide +kernel) (pa_cons (pv 0) (pa_cons (pe_glob (v := cv K 47) (g_bases _ (.tail _ (.head _))) (T.cg 47 "WrongValue" rfl) rfl) pa_nil)))
        (pa_cons (pe_callB call_isX gi B.isinstance (by decide +kernel) (pa_cons (pv 0) (pa_cons (pe_glob (v := cv K 48) (g_bases _ (.tail _ (.tail _ (.head _)))) (T.cg 48 "WrongName" rfl) rfl) pa_nil)))
        (pa_cons (pe_callB call_isX gi B.isinstance (by decide +kernel) (pa_cons (pv 0) (pa_cons (pe_glob (v := cv K 49) (g_bases _ (.tail _ (.tail _ (.tail _ (.head _))))) (T.cg 49 "NotPossible" rfl) rfl) pa_nil))) pa_nil)))))
      (pss_one (ps_ret (pe_op op_cat (pv 1) (pe_lst
        (pa_cons (pe_callB call_isX gi B.isinstance (by decide +kernel) (pa_cons (pv 0) (pa_cons (pe_bltn (v := cv K 50) (g_bases _ (.tail _ (.tail _ (.tail _ (.tail _ (.head _)))))) T.ve (by decide +kernel) rfl) pa_nil)))
        (pa_cons (pe_callB call_isX gi B.isinstance (by decide +kernel) (pa_cons (pv 0) (pa_cons (pe_bltn (v := cv K 51) (g_bases _ (.tail _ (.tail _ (.tail _ (.tail _ (.tail _ (.head _))))))) T.le (by decide +kernel) rfl) pa_nil)))
        (pa_cons (pe_callB call_isX gi B.isinstance (by decide +kernel) (pa_cons (pv 0) (pa_cons (pe_bltn (v := cv K 52) (g_bases _ (.tail _ (.tail _ (.tail _ (.tail _ (.tail _ (.tail _ (.head _)))))))) T.ae (by decide +kernel) rfl) pa_nil))) pa_nil))))))), ?_⟩
    have xa := T.exa i hi
    have kt : ∀ (l : List Nat), (∀ j ∈ l, j < 53) → ∀ j ∈ l, ∃ u, ClsV (cv K j) u ∧ PySem.W.kitOne K (.ref (cl K i)) u = some (says i j) := fun l h j hj => T.kit i j hi (h j hj)
    refine q_asgL (el_lst (iss_ev (s := 0) (K := K) (cv := cv K) (by rfl) he xa [47, 48, 49] (kt _ (by decide))) (by rw [List.length_map]; decide)) fun p H0 hp0 b0 q0 => ?_
    refine ⟨_, rfl, iss_ev (s := 0) (K := K) (cv := cv K) (by rfl) (he.up b0) xa [50, 51, 52] (kt _ (by decide)) H0 (Evl.Ex.refl H0) _ fun H1 e1 => ⟨by rw [List.length_map]; decide, fun z hz => ?_⟩⟩
    have pz : p ≠ z := ne_of_none (e1 _ _ q0) hz
    refine ⟨p, z, _, _, rfl, rfl, by rw [upd_ne pz]; exact e1 _ _ q0, upd_same, by rw [List.length_map, List.length_map]; decide, fun y hy => ?_⟩
    have s1 : Same H H1 := b0.trans e1
    have s2 := s1.trans (Same.new (o := .lst ([50, 51, 52].map fun j => V.bl (says i j))) hz)
    refine hQ y _ (s2.free hy) (s2.trans (Same.new hy)) upd_same
theorem sc_kept : FnScope ["_law_e", "_law_k"] ["_law_e", "_law_k"] (defScope s_kept) := ⟨rfl, rfl, rfl, by decide +kernel, rfl, by decide +kernel, by decide +kernel⟩
def fl (i : Nat) : Str := match exs[i]? with
  | some e => e.2.1
  | none => ""
/-- the field of an exception -/
def spKept (K : PySem.W.Frag) : Sp := fun vs H Q _ => ∃ (a : Addr) (i : Nat) (d : Addr) (v : V), vs = [.ref a, .int (i : Int)] ∧ i < 45 ∧ ExAt H a (cl K i) d (fl i) v ∧
  ∀ H', Same H H' → Q v H'
theorem fl_given : ∀ i : Nat, i < 45 → (i < 33 ∨ inV (.int (i : Int)) [.int 41, .int 43] = true) → fl i = "given" := by decide +kernel
theorem fl_index : ∀ i : Nat, i < 45 → ¬ (i < 33) → inV (.int (i : Int)) [.int 41, .int 43] = false → fl i = "index" := by decide +kernel
theorem ok_kept {f : Addr} {fd : FuncData} (F : Fun K "_law_kept" "_law_kept" s_kept f fd) (T : Kx K mg) (N : ∀ i : Nat, i < 45 → PySem.W.findIn K (.ref (cl K i)) (fl i) = some none) :
    FnOk P w K mg base CX0 1 f fd ["_law_e", "_law_k"] (spKept K) := by
  refine F.ok sc_kept (fun vs H Q E h => ?_) (fun cdv A outer s H vs Q E hr h => ?_)
  · obtain ⟨a, i, d, v, rfl, _⟩ := h
    rfl
  · obtain ⟨a, i, d, v, rfl, hi, he, hQ⟩ := h
    refine ⟨_, pss_one (ps_ret (pe_ifExp (PW.pt (pw_or (pt_cmpR op_lt (pv 1) pe_int (nomark _)) (pw_or1 (pt_cmpR op_in_seq (pv 1) (pe_lst (pa_cons pe_int (pa_cons pe_int pa_nil))) (by rfl)))))
      (pe_xfld (n := "given") (pv 0)) (pe_xfld (n := "index") (pv 0)))), ?_⟩
    have xa := T.exa i (by omega)
    have nf := N i hi
    have get : ∀ {H' : Hp} {n : Str}, Same H H' → fl i = n → tXfld K n (tVar 0) [some (.ref a), some (.int (i : Int))] H' Q := by
      rintro H' n s rfl
      exact ⟨_, rfl, a, _, d, _, v, rfl, s _ _ he.ob, s _ _ he.di, xa, nf, by simp [List.lookup], hQ H' s⟩
    refine ⟨_, rfl, _, _, rfl, rfl, _, rfl, ?_⟩
    refine ite2 (fun c => ?_) (fun c => ?_)
    · exact get (Same.refl H) (fl_given i hi (.inl (by have := of_decide_eq_true c; omega)))
    · have c1 : ¬ (i < 33) := fun z => c (decide_eq_true (by omega))
      refine ⟨_, rfl, by show 2 ≤ sizeLine; decide, fun p hp => ⟨p, _, rfl, .inl (.inl (.inl upd_same)), rfl, rfl, _, rfl, ?_⟩⟩
      refine ite2 (fun c2 => ?_) (fun c2 => ?_)
      · exact get (Same.new hp) (fl_given i hi (.inr c2))
      · exact get (Same.new hp) (fl_index i hi c1 (by simpa using c2))
end
end K01
namespace K01
open PySem PySem.Spec PyProof.Rows L2 Tc Evl
theorem dp_bls {K : PySem.W.Frag} {H : Hp} : ∀ bs : List Bool, DpAll K H (bs.map V.bl) (bs.map PyData.bool)
  | [] => .nil
  | b :: bs => .cons (.bl b) (dp_bls bs)
def bn (i : Nat) : Nat := if i < 41 then 0 else if i < 43 then 1 else 2
def bd (i : Nat) : List Bool := [47, 48, 49, 50, 51, 52].map (says i)
theorem based_eq (i : Nat) : based i = (bd i).map V.bl := by
  unfold based bd
  rw [List.map_map]
  rfl
def bv (b : Nat) (n : Nat) : V := .bl (decide (V.int (n : Int) = V.int (b : Int)))
theorem base3 : ∀ i : Nat, i < 47 → (List.replicate 2 (given 3 (fun _ => true) (bv (bn i)))).flatten = (bd i).map V.bl := by decide +kernel
theorem sh1 : ∀ i : Nat, i < 47 → SeqAt.shaped (.list [.int (i : Int)]) = true ∧ PyData.eqv (.list [.int (i : Int)]) (.list [.int (i : Int)]) = true := by decide +kernel
theorem sh2 : ∀ i : Nat, i < 47 → SeqAt.shaped (.list ((bd i).map PyData.bool)) = true ∧ PyData.eqv (.list ((bd i).map PyData.bool)) (.list ((bd i).map PyData.bool)) = true := by decide +kernel
section
variable {P : Program} {w : World} {K : PySem.W.Frag} {mg : Str → Option Value} {base : Heap}
theorem sc_isof : FnScope ["_law_e", "_law_k", "_law_base", "_law_at"] ["_law_e", "_law_k"] (defScope s_is_of) := ⟨rfl, rfl, rfl, by decide +kernel, rfl, by decide +kernel, by decide +kernel⟩
theorem g_isof : ∀ x ∈ (["_law_sort", "_law_bases", "range"] : List Str), (defScope s_is_of).names.lookup x = some .globalImplicit := by decide +kernel
def spIsOf (K : PySem.W.Frag) : Sp := fun vs H Q _ => ∃ (a : Addr) (i : Nat) (od : Option Addr), vs = [.ref a, .int (i : Int)] ∧ i < 47 ∧ ExSt H a (cl K i) od ∧ ∀ H', Same H H' → Q (.bl true) H'
theorem ok_isof {f : Addr} {fd : FuncData} (F : Fun K "_law_is_of" "_law_is_of" s_is_of f fd) (B : Bl mg)
    (DS : Call P w K mg base CX0 3 "_law_sort" ["_law_e"] (spAsk K sorted)) (DB : Call P w K mg base CX0 3 "_law_bases" ["_law_e"] (spAsk K based)) :
    FnG P w K mg base CX0 4 f fd ["_law_e", "_law_k"] (spIsOf K) := by
  refine Fun.okG F sc_isof (fun vs H Q E h => ?_) (fun cdv A outer s H vs Q E hr hgd h => ?_)
  · obtain ⟨a, i, od, rfl, _⟩ := h
    rfl
  · obtain ⟨a, i, od, rfl, hi, he, hQ⟩ := h
    have hu : (A.deeper (envOfC "_law_is_of" (defScope s_is_of) s.heap.objs.size f cdv)).units + 64 < cLine := hr.units
    refine ⟨_, pss_mid (ps_set (i := 2) sc_isof.nd rfl (.inr rfl) (pe_ifExp (pt_cmpR op_lt (pv 1) pe_int (nomark _)) pe_int (pe_ifExp (pt_cmpR op_lt (pv 1) pe_int (nomark _)) pe_int pe_int)))
      (pss_one (ps_ret (pe_and (pe_cmpR (op_eqD hu) (pe_do DS hr hgd (g_isof _ (.head _)) pass0 (pa_cons (pv 0) pa_nil)) (pe_lst (pa_cons (pv 1) pa_nil)) (nomark _))
        (pe_one (pe_cmpR (op_eqD hu) (pe_do DB hr hgd (g_isof _ (.tail _ (.head _))) pass0 (pa_cons (pv 0) pa_nil))
          (pe_op op_rep (pe_lc (own := [("_law_at", 3)]) (g := gName 3) rfl sc_isof.nd (pi_range1 (g_isof _ (.tail _ (.tail _ (.head _)))) B.range (pa_cons pe_int pa_nil))
            (blkOk_by (own := [("_law_at", 3)]) (N := ["_law_e", "_law_k", "_law_base", "_law_at"]) (sc := defScope s_is_of) (by decide +kernel)) (fun _ _ _ _ _ => pg_name (i := 3) sc_isof.nd rfl (.inl rfl))
            (fun _ _ _ _ _ => pts_nil) (fun _ _ _ _ _ => pe_cmpR op_eq (pv 3) (pv 2) (nomark _))) pe_int) (nomark _)))))), ?_⟩
    -- base
    refine ⟨fun σ' H' => H' = H ∧ σ' = [some (.ref a), some (.int (i : Int)), some (.int (bn i : Int)), none], ?_, ?_⟩
    · refine ⟨_, rfl, _, _, rfl, rfl, _, rfl, ?_⟩
      refine ite2 (fun c => ?_) (fun c => ?_)
      · have c' : i < 41 := by have := of_decide_eq_true c; omega
        exact ⟨rfl, by unfold bn; rw [if_pos c']; rfl⟩
      · have c' : ¬ i < 41 := fun z => c (decide_eq_true (by omega))
        refine ⟨_, rfl, _, _, rfl, rfl, _, rfl, ?_⟩
        refine ite2 (fun c2 => ?_) (fun c2 => ?_)
        · have c3 : i < 43 := by have := of_decide_eq_true c2; omega
          exact ⟨rfl, by unfold bn; rw [if_neg c', if_pos c3]; rfl⟩
        · have c3 : ¬ i < 43 := fun z => c2 (decide_eq_true (by omega))
          exact ⟨rfl, by unfold bn; rw [if_neg c', if_neg c3]; rfl⟩
    rintro σ' H' ⟨rfl, rfl⟩
    -- sort(e) == [k]
    refine ⟨_, rfl, a, i, od, rfl, by omega, he, fun p H1 hp s1 h1 => ?_⟩
    refine ⟨_, rfl, by show 1 ≤ sizeLine; decide, fun q hq => ?_⟩
    have h1' : H1 p = some (.lst [.int (i : Int)]) := by rw [h1]; unfold sorted; rw [if_pos hi]
    have s2 : Same H1 (upd H1 q (.lst [.int (i : Int)])) := Same.new hq
    refine ⟨.list [.int (i : Int)], .list [.int (i : Int)], .lst (.inl (.inl (s2 _ _ h1'))) (.cons (.int _) .nil), .lst (.inl (.inl upd_same)) (.cons (.int _) .nil), (sh1 i hi).1, (sh1 i hi).1, _, rfl, ?_⟩
    rw [(sh1 i hi).2]
    refine iteT ?_
    -- bases(e) == [..] * 2
    have s3 : Same H' (upd H1 q (.lst [.int (i : Int)])) := s1.trans s2
    refine ⟨_, rfl, a, i, od, rfl, by omega, he.up s3, fun p2 H2 hp2 s4 h2 => ?_⟩
    have cmp : EvL (tLc (iRng1 (tCons (tC (.int 3)) tNil)) (gName 3) tYes (tOp rEq (tVar 3) (tVar 2)) [3]) [some (.ref a), some (.int (i : Int)), some (.int (bn i : Int)), none] H2 (given (3 : Int).toNat (fun _ => true) (bv (bn i))) :=
      el_lcR1 (n := 3) (fun _ => true) (bv (bn i)) (ea_cons ev_c ea_nil) (by decide) (fun _ => rfl) (fun k H1 e hk => fun H2 _ Q q => q H2 (Evl.Ex.refl H2))
        (fun k H1 e hk _ => ev_op (x := .int (k : Int)) (y := .int (bn i : Int)) (ev_var rfl) (ev_var rfl) (rv_eq rfl))
    refine cmp H2 (Evl.Ex.refl H2) _ fun p3 H3 hp3 s5 h3 => ?_
    refine ⟨p3, 2, _, rfl, rfl, h3, by decide, by decide, Nat.le_trans (Nat.mul_le_mul_right _ (given_len _ _ _)) (by decide), fun p4 hp4 => ?_⟩
    have e4 : upd H3 p4 (.lst (List.replicate (2 : Int).toNat (given (3 : Int).toNat (fun _ => true) (bv (bn i)))).flatten) p4 = some (.lst ((bd i).map V.bl)) := by
      rw [upd_same]
      exact congrArg (fun l => some (HO.lst l)) (base3 i hi)
    have s6 := s5.trans (Same.new (o := .lst (List.replicate (2 : Int).toNat (given (3 : Int).toNat (fun _ => true) (bv (bn i)))).flatten) hp4)
    refine ⟨.list ((bd i).map PyData.bool), .list ((bd i).map PyData.bool), .lst (xs := (bd i).map V.bl) (.inl (.inl (s6 _ _ (by rw [h2, based_eq])))) (dp_bls _), .lst (xs := (bd i).map V.bl) (.inl (.inl e4)) (dp_bls _), (sh2 i hi).1, (sh2 i hi).1, ?_⟩
    rw [(sh2 i hi).2]
    exact hQ _ (s3.trans (s4.trans s6))
end
end K01
namespace Tc
open PySem PySem.Spec PyProof.Rows L2 Evl
/-- the lists at ps -/
inductive LL (H : Hp) : List Addr → List (List V) → Prop
  | nil : LL H [] []
  | snoc {ps : List Addr} {xss : List (List V)} {p : Addr} {xs : List V} : LL H ps xss → H p = some (.lst xs) → LL H (ps ++ [p]) (xss ++ [xs])
theorem LL.mono {H H' : Hp} : ∀ {ps : List Addr} {xss : List (List V)}, LL H ps xss → (∀ p ∈ ps, ∀ o, H p = some o → H' p = some o) → LL H' ps xss
  | _, _, .nil, _ => .nil
  | _, _, .snoc r h, s => .snoc (r.mono fun p hp => s p (List.mem_append_left _ hp)) (s _ (by simp) _ h)
/-- [a new list for each turn] -/
theorem lc_ll {J : It} {n : Nat} {G : Hp → Prop} {Y : Nat → Hp → V → Hp → Prop} {te : TE} {vs : List Nat} {j : Nat} {σ : L2.St} {H1 : Hp} {D : Addr} {Qd : Hp → Prop} (w : Walk J n G Y) (xv : Nat → V) (c : Nat → List V)
    (hD : H1 D = none) (hn : n ≤ 1000) (hY : ∀ i H x H', i < n → Y i H x H' → H' = H ∧ x = xv i) (hG : ∀ H', Ex H1 H' → G H') (hw : ∀ x, wipe ((wipe σ vs).set j (some x)) vs = wipe σ vs)
    (he : ∀ i H', i < n → Ex H1 H' → EvL te ((wipe σ vs).set j (some (xv i))) H' (c i))
    (q : ∀ ps H', Ex H1 H' → H' D = some (.lst (ps.map V.ref)) → LL H' ps ((List.range n).map c) → Qd H') :
    ∃ W : Nat → Nat → Hp → Prop, (∃ m, W 0 m (upd H1 D (.lst []))) ∧ ∀ i m H, W i m H →
      (J.stop i H ∧ Qd H) ∨ (J.go i H ∧ ∃ Nx : Hp → Prop, (∀ H', Nx H' → ∃ m', m' < m ∧ W (i + 1) m' H') ∧ ∀ x H', J.yld i H x H' → gName j x (wipe σ vs) H' fun σ2 H2 => wipe σ2 vs = wipe σ vs ∧ tYes σ2 H2 fun b H3 =>
        if b = true then te σ2 H3 fun y H4 => ∃ acc, H4 D = some (.lst acc) ∧ acc.length < sizeLine ∧ Nx (upd H4 D (.lst (acc ++ [y]))) else Nx H3) := by
  refine lc_it w (fun i H' => Ex H1 H' ∧ ∃ ps : List Addr, ps.length = i ∧ i ≤ n ∧ H' D = some (.lst (ps.map V.ref)) ∧ D ∉ ps ∧ LL H' ps ((List.range i).map c))
    ⟨Ex.new hD, [], rfl, Nat.zero_le _, upd_same, by simp, .nil⟩ (fun i H' _ p => hG H' p.1) ?_ (fun H' p => ?_)
  · rintro i x H H' hi ⟨p1, ps, p2, p3, p4, p5, p6⟩ y
    obtain ⟨rfl, rfl⟩ := hY i H x H' hi y
    refine ⟨hw _, ?_⟩
    simp only [tYes, eq_self, if_true]
    refine he i H' hi p1 H' (Evl.Ex.refl H') _ fun p H4 hp e4 h4 => ?_
    have pD : p ≠ D := fun z => by
      rw [z, p4] at hp
      cases hp
    refine ⟨ps.map V.ref, e4 _ _ p4, by rw [List.length_map, p2]; exact Nat.lt_of_lt_of_le hi (Nat.le_trans hn (by decide)), Ex.mut (p1.trans e4) hD, ps ++ [p], by simp [p2], hi, by rw [upd_same, List.map_append]; rfl, ?_, ?_⟩
    · simp only [List.mem_append, List.mem_singleton, not_or]
      exact ⟨p5, fun z => pD z.symm⟩
    · rw [List.range_succ, List.map_append]
      refine LL.mono (.snoc (p6.mono fun a _ o z => e4 a o z) h4) fun a ha o z => ?_
      rw [upd_ne (fun z' => by
        rw [z'] at ha
        exact (by simpa using ha : D ∈ ps ∨ D = p).elim p5 fun z2 => pD z2.symm)]
      exact z
  · obtain ⟨p1, ps, p2, p3, p4, p5, p6⟩ := p
    exact q ps H' p1 p4 p6
theorem Call.mono {P : Program} {w : World} {K : PySem.W.Frag} {mg : Str → Option Value} {base : Heap} {CX : CXT} {j k : Nat} {x : Str} {ps : List Str} {sp : Sp} (F : Call P w K mg base CX j x ps sp) (h : j ≤ k) : Call P w K mg base CX k x ps sp := by
  obtain ⟨f, fd, G, r⟩ := F.ex
  exact ⟨f, fd, G.mono h, r⟩
/-- a whole number of the module -/
theorem pe_num {X : Cx} {x : Str} {n : Int} {p : Pos} (h : ∃ t, X.mg x = some (.int n t)) (hg : Gl X x) (hd : (x == ("__debug__" : Str)) = false := by decide) : PE X (.Name x p) (tC (.int n)) := by
  obtain ⟨t, e⟩ := h
  exact pe_glob hg e ⟨_, rfl⟩ hd
end Tc
namespace K01
open PySem PySem.Spec PyProof.Rows L2 Tc Evl
/-- the classes without a field -/
structure Nw (K : PySem.W.Frag) : Prop where
  nw : ∀ (j : Nat) (x : Str), 45 ≤ j → alls[j]?.map (·.1) = some x → ∃ k : Kin, PySem.W.excIn K (cl K j) k.mro k.new = true ∧ PySem.W.keepIn K (.ref (cl K j)) = true
theorem pe_bare {X : Cx} {p pos : Pos} (T : Kx X.K X.mg) (N : Nw X.K) (j : Nat) (x : Str) (h : alls[j]?.map (·.1) = some x) (h45 : 45 ≤ j) (hg : Gl X x) (hdb : (x == ("__debug__" : Str)) = false := by decide) :
    PE X (.Call (.Name x p) [] [] pos) (tNewX0 (cl X.K j)) := by
  obtain ⟨k, q, kC⟩ := N.nw j x h45 h
  exact pe_newX0 k.base q (T.cg j x h) kC hg hdb
theorem ex0 {H : Hp} {a C : Addr} : ExSt (upd H a (exo a C none)) a C none := ⟨upd_same, fun d h => nomatch h⟩
theorem cf_at {K : PySem.W.Frag} {i : Nat} {C : Addr} {f : Str} (h : (cf K 0 45)[i]? = some (C, f)) : i < 45 ∧ C = cl K i ∧ f = fl i := by
  have e0 : cf K 0 45 = exs.map fun e => (He.ga K e.1, e.2.1) := by
    unfold cf
    rw [List.drop_zero, List.take_of_length_le (Nat.le_of_eq (show exs.length = 45 from rfl))]
  rw [e0, List.getElem?_map] at h
  cases q : exs[i]? with
  | none =>
    rw [q] at h
    cases h
  | some e =>
    rw [q] at h
    have h := Option.some.inj h
    have hi : i < 45 := (List.getElem?_eq_some_iff.mp q).1
    have ha : alls[i]? = some (e.1, e.2.2.1) := by
      unfold alls
      rw [List.getElem?_append_left (by rw [List.length_map]; exact hi), List.getElem?_map, q] <;> rfl
    refine ⟨hi, ?_, ?_⟩
    · unfold cl
      rw [ha]
      exact (congrArg Prod.fst h).symm
    · unfold fl
      rw [q]
      exact (congrArg Prod.snd h).symm
theorem rows3 : (List.range 3).map (fun k => (List.replicate 2 (given 3 (fun _ => true) (bv k))).flatten) = (List.range 3).map (fun k => (bd (47 + k)).map V.bl) := by decide +kernel
theorem sh3 : SeqAt.shaped (.list ((List.range 3).map fun k => .list ((bd (47 + k)).map PyData.bool))) = true ∧ PyData.eqv (.list ((List.range 3).map fun k => .list ((bd (47 + k)).map PyData.bool))) (.list ((List.range 3).map fun k => .list ((bd (47 + k)).map PyData.bool))) = true := by decide +kernel
theorem sh4 : SeqAt.shaped (.list [.list [], .list [], .list []]) = true ∧ PyData.eqv (.list [.list [], .list [], .list []]) (.list [.list [], .list [], .list []]) = true := by decide +kernel
section
variable {P : Program} {w : World} {K : PySem.W.Frag} {mg : Str → Option Value} {base : Heap}
theorem dp_ll {H : Hp} {c : Nat → List V} {d : Nat → List PyData} (h : ∀ k, DpAll K H (c k) (d k)) : ∀ {n : Nat} {ps : List Addr}, LL H ps ((List.range n).map c) → DpAll K H (ps.map V.ref) ((List.range n).map fun k => PyData.list (d k)) := by
  intro n
  induction n with
  | zero =>
    intro ps r
    generalize e : (List.range 0).map c = l at r
    cases r with
    | nil => exact .nil
    | snoc r h => simp at e
  | succ n ih =>
    intro ps r
    rw [List.range_succ, List.map_append] at r ⊢
    generalize e : (List.range n).map c ++ [n].map c = l at r
    cases r with
    | nil => simp at e
    | snoc r h2 =>
      obtain ⟨e1, e2⟩ := List.append_inj' e rfl
      subst e1
      have e3 := List.head_eq_of_cons_eq e2
      subst e3
      rw [List.map_append]
      have app : ∀ {vs vs' : List V} {ds ds' : List PyData}, DpAll K H vs ds → DpAll K H vs' ds' → DpAll K H (vs ++ vs') (ds ++ ds') := by
        intro vs vs' ds ds' x y
        induction vs generalizing ds with
        | nil => cases x; exact y
        | cons v vs ih2 => cases x with | cons x1 x2 => exact .cons x1 (ih2 x2)
      exact app (ih r) (.cons (.lst (.inl (.inl h2)) (h n)) .nil)
theorem sc_right : FnScope ["_law_jar_here", "_law_odd_here", "_law_made", "_law_some", "_law_k", "_law_e", "_law_bare", "_law_told", "_law_at"] ["_law_jar_here"] (defScope s_right) := ⟨rfl, rfl, rfl, by decide +kernel, rfl, by decide +kernel, by decide +kernel⟩
theorem g_right_0 : ∀ x ∈ (["_law_odd", "_law_values", "_law_others", "_law_named_values", "_law_named_others", "_law_is_of", "_law_kept", "repr"] : List Str), (defScope s_right).names.lookup x = some .globalImplicit := by decide +kernel
theorem g_right_1 : ∀ x ∈ (["enumerate", "NoData", "NothingToUndo", "WrongValue", "WrongName", "NotPossible"] : List Str), (defScope s_right).names.lookup x = some .globalImplicit := by decide +kernel
theorem g_right_2 : ∀ x ∈ (["MOST_NUMBER", "MOST_LINES", "MOST_SIDE_LINES", "MOST_LEAVES", "MOST_COUNTED", "MOST_COVERED", "MOST_BASE", "MOST_SCORE"] : List Str), (defScope s_right).names.lookup x = some .globalImplicit := by decide +kernel
theorem g_right_3 : ∀ x ∈ (["MOST_PEOPLE", "MOST_FACTS", "MOST_EDGE", "MOST_FACE", "MOST_SHARES", "MOST_VOTERS"] : List Str), (defScope s_right).names.lookup x = some .globalImplicit := by decide +kernel
abbrev scK : Scope := { kind := .function, names := [(".0", .local), ("_law_k", .cell), ("range", .globalImplicit)], isGenerator := false, isCoroutine := false }
def spRight : Sp := fun vs H Q _ => ∃ a : Addr, vs = [.ref a] ∧ Jar H a ∧ ∀ H', But a H H' → Q (.bl true) H'

def told : List Int := [4000, 10, 8, 4, 40, 9, 100, 6, 12, 6, 3, 12, 6, 60]
def toldD : PyData := .list (told.map PyData.int)
theorem dv_ints {H : Hp} : ∀ ns : List Int, DvAll H (ns.map V.int) (ns.map PyData.int)
  | [] => .nil
  | n :: ns => .cons (.int n) (dv_ints ns)
theorem told_good : Good toldD := by decide +kernel
theorem told_eq : decide (V.str toldD.shown = V.str "[4000, 10, 8, 4, 40, 9, 100, 6, 12, 6, 3, 12, 6, 60]") = true := by decide +kernel
theorem ok_right {f : Addr} {fd : FuncData} (F : Fun K "_law_right" "_law_right" s_right f fd) (B : Bl mg) (T : Kx K mg) (NW : Nw K) (SM : ∃ o, K.lookup sysModules = some o)
    (NU : ∀ (i : Nat) (x : Str) (n : Int), nums[i]? = some (x, n) → ∃ t, mg x = some (.int n t))
    (DO : Call P w K mg base CX0 3 "_law_odd" ["_law_jar_here"] spOdd)
    (D1 : Call P w K mg base CX0 3 "_law_values" ["_law_odd_here"] (spMake K 0 33)) (D2 : Call P w K mg base CX0 3 "_law_others" ["_law_odd_here"] (spMake K 33 12))
    (D3 : Call P w K mg base CX0 3 "_law_named_values" ["_law_odd_here"] (spMake K 0 33)) (D4 : Call P w K mg base CX0 3 "_law_named_others" ["_law_odd_here"] (spMake K 33 12))
    (DI : Call P w K mg base CX0 4 "_law_is_of" ["_law_e", "_law_k"] (spIsOf K)) (DK : Call P w K mg base CX0 1 "_law_kept" ["_law_e", "_law_k"] (spKept K))
    (DS : Call P w K mg base CX0 3 "_law_sort" ["_law_e"] (spAsk K sorted)) (DB : Call P w K mg base CX0 3 "_law_bases" ["_law_e"] (spAsk K based)) :
    FnG P w K mg base CX0 5 f fd ["_law_jar_here"] spRight := by
  refine Fun.okG F sc_right (fun vs H Q E h => ?_) (fun cdv A outer s H vs Q E hr hgd h => ?_)
  · obtain ⟨a, rfl, _⟩ := h
    rfl
  · obtain ⟨a, rfl, hj, hQ⟩ := h
    have hu : (A.deeper (envOfC "_law_right" (defScope s_right) s.heap.objs.size f cdv)).units + 64 < cLine := hr.units
    refine ⟨_, (pss_mid (ps_set (i := 1) sc_right.nd rfl (.inl rfl) (pe_do DO (hr.mono (by decide)) hgd (g_right_0 _ (.head _)) pass0 (pa_cons (pv 0) pa_nil)))
      (pss_mid (ps_set (i := 2) sc_right.nd rfl (.inl rfl) (pe_lst (pa_cons (pe_op op_cat (pe_do D1 (hr.mono (by decide)) hgd (g_right_0 _ (.tail _ (.head _))) pass0 (pa_cons (pv 1) pa_nil)) (pe_do D2 (hr.mono (by decide)) hgd (g_right_0 _ (.tail _ (.tail _ (.head _)))) pass0 (pa_cons (pv 1) pa_nil))) (pa_cons (pe_op op_cat (pe_do D3 (hr.mono (by decide)) hgd (g_right_0 _ (.tail _ (.tail _ (.tail _ (.head _))))) pass0 (pa_cons (pv 1) pa_nil)) (pe_do D4 (hr.mono (by decide)) hgd (g_right_0 _ (.tail _ (.tail _ (.tail _ (.tail _ (.head _)))))) pass0 (pa_cons (pv 1) pa_nil))) pa_nil))))
      (pss_mid (ps_for PassesOwn.leaving rfl (pi_list (pv 2)) (pg_name (i := 3) sc_right.nd rfl (.inl rfl)) (pss_one (ps_for PassesOwn.leaving rfl (pi_enum (g_right_1 _ (.head _)) B.enumerate (pa_cons (pv 3) pa_nil)) (pg_tup (by rfl) (pgs_cons (pg_name (i := 4) sc_right.nd rfl (.inl rfl)) (pgs_cons (pg_name (i := 5) sc_right.nd rfl (.inl rfl)) pgs_nil)))
        (pss_one (ps_if (PW.pt (pw_or (pt_not (pt_val (pe_do DI (hr.mono (by decide)) hgd (g_right_0 _ (.tail _ (.tail _ (.tail _ (.tail _ (.tail _ (.head _))))))) pass0 (pa_cons (pv 5) (pa_cons (pv 4) pa_nil))))) (pw_or1 (pt_cmpR op_ne (pe_callB (call_repr hr hgd SM) (g_right_0 _ (.tail _ (.tail _ (.tail _ (.tail _ (.tail _ (.tail _ (.tail _ (.head _))))))))) B.repr (by decide +kernel) (pa_cons (pe_do DK (hr.mono (by decide)) hgd (g_right_0 _ (.tail _ (.tail _ (.tail _ (.tail _ (.tail _ (.tail _ (.head _)))))))) pass0 (pa_cons (pv 5) (pa_cons (pv 4) pa_nil))) pa_nil)) (pe_callB (call_repr hr hgd SM) (g_right_0 _ (.tail _ (.tail _ (.tail _ (.tail _ (.tail _ (.tail _ (.tail _ (.head _))))))))) B.repr (by decide +kernel) (pa_cons (pv 1) pa_nil)) (nomark _))))) (pss_one (ps_ret pe_bl)) pss_nil)))))
      (pss_mid (ps_for PassesOwn.leaving rfl (pi_enum (g_right_1 _ (.head _)) B.enumerate (pa_cons (pe_lst (pa_cons (pe_bare T NW 45 "NoData" rfl (by decide) (g_right_1 _ (.tail _ (.head _)))) (pa_cons (pe_bare T NW 46 "NothingToUndo" rfl (by decide) (g_right_1 _ (.tail _ (.tail _ (.head _))))) pa_nil))) pa_nil)) (pg_tup (by rfl) (pgs_cons (pg_name (i := 4) sc_right.nd rfl (.inl rfl)) (pgs_cons (pg_name (i := 5) sc_right.nd rfl (.inl rfl)) pgs_nil)))
        (pss_one (ps_if (pt_not (pt_val (pe_do DI (hr.mono (by decide)) hgd (g_right_0 _ (.tail _ (.tail _ (.tail _ (.tail _ (.tail _ (.head _))))))) pass0 (pa_cons (pv 5) (pa_cons (pe_op op_add pe_int (pv 4)) pa_nil))))) (pss_one (ps_ret pe_bl)) pss_nil)))
      (pss_mid (ps_set (i := 6) sc_right.nd rfl (.inl rfl) (pe_lst (pa_cons (pe_bare T NW 47 "WrongValue" rfl (by decide) (g_right_1 _ (.tail _ (.tail _ (.tail _ (.head _)))))) (pa_cons (pe_bare T NW 48 "WrongName" rfl (by decide) (g_right_1 _ (.tail _ (.tail _ (.tail _ (.tail _ (.head _))))))) (pa_cons (pe_bare T NW 49 "NotPossible" rfl (by decide) (g_right_1 _ (.tail _ (.tail _ (.tail _ (.tail _ (.tail _ (.head _)))))))) pa_nil)))))
      (pss_mid (ps_if (pt_cmpR (op_neD hu) (pe_lc (own := [("_law_e", 5)]) (g := gName 5) (te := tCall (spAsk K sorted) [] (fun _ _ _ => False) (tCons (tVar 5) tNil)) rfl sc_right.nd (pi_list (pv 6)) (blkOk_by (own := [("_law_e", 5)]) (N := ["_law_jar_here", "_law_odd_here", "_law_made", "_law_some", "_law_k", "_law_e", "_law_bare", "_law_told", "_law_at"]) (sc := defScope s_right) (by decide +kernel)) (fun _ _ _ _ _ => pg_name (i := 5) sc_right.nd rfl (.inl rfl))
        (fun _ _ _ _ _ => pts_nil) (fun _ _ _ _ _ => pe_do DS (hr.mono (by decide)) hgd (by rfl) pass0 (pa_cons (pv 5) pa_nil))) (pe_lst (pa_cons (pe_lst pa_nil) (pa_cons (pe_lst pa_nil) (pa_cons (pe_lst pa_nil) pa_nil)))) (nomark _)) (pss_one (ps_ret pe_bl)) pss_nil)
      (pss_mid (ps_if (pt_cmpR (op_neD hu) (pe_lc (own := [("_law_e", 5)]) (g := gName 5) (te := tCall (spAsk K based) [] (fun _ _ _ => False) (tCons (tVar 5) tNil)) rfl sc_right.nd (pi_list (pv 6)) (blkOk_by (own := [("_law_e", 5)]) (N := ["_law_jar_here", "_law_odd_here", "_law_made", "_law_some", "_law_k", "_law_e", "_law_bare", "_law_told", "_law_at"]) (sc := defScope s_right) (by decide +kernel)) (fun _ _ _ _ _ => pg_name (i := 5) sc_right.nd rfl (.inl rfl))
        (fun _ _ _ _ _ => pts_nil) (fun _ _ _ _ _ => pe_do DB (hr.mono (by decide)) hgd (by rfl) pass0 (pa_cons (pv 5) pa_nil)))
        (pe_lc (own := [("_law_k", 4), ("_law_at", 8)]) (g := gName 4) (te := tOp rRep (tLc (iRng1 (tCons (tC (.int 3)) tNil)) (gName 8) tYes (tOp rEq (tVar 8) (tVar 4)) [8]) (tC (.int 2))) rfl sc_right.nd (pi_range1 (by rfl) B.range (pa_cons pe_int pa_nil)) (blkOk_by (own := [("_law_k", 4), ("_law_at", 8)]) (N := ["_law_jar_here", "_law_odd_here", "_law_made", "_law_some", "_law_k", "_law_e", "_law_bare", "_law_told", "_law_at"]) (sc := defScope s_right) (by decide +kernel)) (fun _ _ _ _ _ => pg_name (i := 4) sc_right.nd rfl (.inr rfl))
        (fun _ _ _ _ _ => pts_nil) (fun _ _ _ _ _ => pe_op op_rep (pe_lc (own := [("_law_at", 8)]) (g := gName 8) (te := tOp rEq (tVar 8) (tVar 4)) rfl sc_right.nd (pi_range1 (by rfl) B.range (pa_cons pe_int pa_nil)) (blkOk_by (own := [("_law_at", 8)]) (N := ["_law_jar_here", "_law_odd_here", "_law_made", "_law_some", "_law_k", "_law_e", "_law_bare", "_law_told", "_law_at"]) (sc := scK) (by decide +kernel)) (fun _ _ _ _ _ => pg_name (i := 8) sc_right.nd rfl (.inl rfl)) (fun _ _ _ _ _ => pts_nil) (fun _ _ _ _ _ => pe_cmpR op_eq (pv 8) (pv 4) (nomark _))) pe_int)) (nomark _)) (pss_one (ps_ret pe_bl)) pss_nil)
      (pss_mid (ps_set (i := 7) sc_right.nd rfl (.inl rfl) (pe_lst (pa_cons (pe_num (x := "MOST_NUMBER") (n := 4000) (NU 0 "MOST_NUMBER" 4000 rfl) (g_right_2 _ (.head _))) (pa_cons (pe_num (x := "MOST_LINES") (n := 10) (NU 1 "MOST_LINES" 10 rfl) (g_right_2 _ (.tail _ (.head _)))) (pa_cons (pe_num (x := "MOST_SIDE_LINES") (n := 8) (NU 2 "MOST_SIDE_LINES" 8 rfl) (g_right_2 _ (.tail _ (.tail _ (.head _))))) (pa_cons (pe_num (x := "MOST_LEAVES") (n := 4) (NU 3 "MOST_LEAVES" 4 rfl) (g_right_2 _ (.tail _ (.tail _ (.tail _ (.head _)))))) (pa_cons (pe_num (x := "MOST_COUNTED") (n := 40) (NU 4 "MOST_COUNTED" 40 rfl) (g_right_2 _ (.tail _ (.tail _ (.tail _ (.tail _ (.head _))))))) (pa_cons (pe_num (x := "MOST_COVERED") (n := 9) (NU 5 "MOST_COVERED" 9 rfl) (g_right_2 _ (.tail _ (.tail _ (.tail _ (.tail _ (.tail _ (.head _)))))))) (pa_cons (pe_num (x := "MOST_BASE") (n := 100) (NU 6 "MOST_BASE" 100 rfl) (g_right_2 _ (.tail _ (.tail _ (.tail _ (.tail _ (.tail _ (.tail _ (.head _))))))))) (pa_cons (pe_num (x := "MOST_SCORE") (n := 6) (NU 7 "MOST_SCORE" 6 rfl) (g_right_2 _ (.tail _ (.tail _ (.tail _ (.tail _ (.tail _ (.tail _ (.tail _ (.head _)))))))))) pa_nil))))))))))
      (pss_mid (ps_set (i := 7) sc_right.nd rfl (.inl rfl) (pe_op op_cat (pv 7) (pe_lst (pa_cons (pe_num (x := "MOST_PEOPLE") (n := 12) (NU 8 "MOST_PEOPLE" 12 rfl) (g_right_3 _ (.head _))) (pa_cons (pe_num (x := "MOST_FACTS") (n := 6) (NU 9 "MOST_FACTS" 6 rfl) (g_right_3 _ (.tail _ (.head _)))) (pa_cons (pe_num (x := "MOST_EDGE") (n := 3) (NU 10 "MOST_EDGE" 3 rfl) (g_right_3 _ (.tail _ (.tail _ (.head _))))) (pa_cons (pe_num (x := "MOST_FACE") (n := 12) (NU 11 "MOST_FACE" 12 rfl) (g_right_3 _ (.tail _ (.tail _ (.tail _ (.head _)))))) (pa_cons (pe_num (x := "MOST_SHARES") (n := 6) (NU 12 "MOST_SHARES" 6 rfl) (g_right_3 _ (.tail _ (.tail _ (.tail _ (.tail _ (.head _))))))) (pa_cons (pe_num (x := "MOST_VOTERS") (n := 60) (NU 13 "MOST_VOTERS" 60 rfl) (g_right_3 _ (.tail _ (.tail _ (.tail _ (.tail _ (.tail _ (.head _)))))))) pa_nil)))))))))
      (pss_one (ps_ret (pe_cmpR op_eq (pe_callB (call_repr hr hgd SM) (g_right_0 _ (.tail _ (.tail _ (.tail _ (.tail _ (.tail _ (.tail _ (.tail _ (.head _))))))))) B.repr (by decide +kernel) (pa_cons (pv 7) pa_nil)) pe_str (nomark _))))))))))))), ?_⟩
    -- odd
    refine ⟨fun σ' H' => ∃ (v : V) (d : PyData), Dv H' v d ∧ Good d ∧ But a H H' ∧ σ' = [some (.ref a), some v, none, none, none, none, none, none, none],
      ⟨_, rfl, a, rfl, hj, fun v d H' hv hg _ hb => ⟨v, d, hv, hg, hb, rfl⟩⟩, ?_⟩
    rintro _ H1 ⟨v, d, hv, hg, hb, rfl⟩
    have cfl := cf_le K
    -- made
    refine ⟨fun σ' H' => ∃ (m L1 L2 : Addr) (as bs : List Addr), σ' = [some (.ref a), some v, some (.ref m), none, none, none, none, none, none] ∧ Same H1 H' ∧ H' m = some (.lst [.ref L1, .ref L2]) ∧
      H' L1 = some (.lst (as.map V.ref)) ∧ H' L2 = some (.lst (bs.map V.ref)) ∧ ExAll H' v (cf K 0 45) as ∧ ExAll H' v (cf K 0 45) bs, ?_, ?_⟩
    · refine ⟨_, rfl, v, rfl, fun p1 as1 Ha hp1 s1 q1 e1 => ⟨_, rfl, v, rfl, fun p2 as2 Hb hp2 s2 q2 e2 => ⟨p1, p2, _, _, rfl, rfl, s2 _ _ q1, q2, ?_, fun L1 hL1 => ?_⟩⟩⟩
      · rw [List.length_map, List.length_map, e1.len, e2.len]
        exact Nat.le_trans (Nat.add_le_add (cfl _ _) (cfl _ _)) (by decide)
      have n1 := Same.new (o := .lst (as1.map V.ref ++ as2.map V.ref)) hL1
      refine ⟨_, rfl, v, rfl, fun p3 as3 Hc hp3 s3 q3 e3 => ⟨_, rfl, v, rfl, fun p4 as4 Hd hp4 s4 q4 e4 => ⟨p3, p4, _, _, rfl, rfl, s4 _ _ q3, q4, ?_, fun L2 hL2 => ?_⟩⟩⟩
      · rw [List.length_map, List.length_map, e3.len, e4.len]
        exact Nat.le_trans (Nat.add_le_add (cfl _ _) (cfl _ _)) (by decide)
      have n2 := Same.new (o := .lst (as3.map V.ref ++ as4.map V.ref)) hL2
      refine ⟨by show 2 ≤ sizeLine; decide, fun m hm => ?_⟩
      have n3 := Same.new (o := .lst [V.ref L1, V.ref L2]) hm
      have t3 := s4.trans (n2.trans n3)
      have t2 := s3.trans t3
      have t1 := n1.trans t2
      refine ⟨m, L1, L2, as1 ++ as2, as3 ++ as4, rfl, s1.trans (s2.trans t1), upd_same, ?_, ?_, ?_, ?_⟩
      · rw [List.map_append]
        exact t2 _ _ upd_same
      · rw [List.map_append]
        exact n3 _ _ upd_same
      · rw [← cf_app K 0 33 12]
        exact (e1.mono fun b o z _ => (s2.trans t1) b o z).app (e2.mono fun b o z _ => t1 b o z)
      · rw [← cf_app K 0 33 12]
        exact (e3.mono fun b o z _ => t3 b o z).app (e4.mono fun b o z _ => (n2.trans n3) b o z)
    rintro _ H2 ⟨m, L1, L2, as, bs, rfl, s12, hm, hL1, hL2, ea, eb⟩
    -- the made ones
    refine ⟨fun σ' H' => Same H1 H' ∧ ∃ s k e : Option V, σ' = [some (.ref a), some v, some (.ref m), s, k, e, none, none, none], ?_, ?_⟩
    · refine ⟨_, rfl, m, rfl, ⟨_, .inl (.inl hm)⟩, for_list (K := K) (a := m) (xs := [V.ref L1, V.ref L2]) (fun _ σ H' => Same H2 H' ∧ ∃ s k e : Option V, σ = [some (.ref a), some v, some (.ref m), s, k, e, none, none, none])
        ⟨Same.refl _, none, none, none, rfl⟩ (fun _ _ _ _ ⟨s, _⟩ => .inl (.inl (s _ _ hm))) ?_ (fun σ' H' ⟨s, r⟩ => ⟨s12.trans s, r⟩)⟩
      rintro i y σ H3 hi ⟨s23, s, k, e, rfl⟩
      have hy : ∃ (L : Addr) (cs : List Addr), y = .ref L ∧ H2 L = some (.lst (cs.map V.ref)) ∧ ExAll H2 v (cf K 0 45) cs := by
        match i, hi with
        | 0, hi => exact ⟨L1, as, (Option.some.inj hi).symm, hL1, ea⟩
        | 1, hi => exact ⟨L2, bs, (Option.some.inj hi).symm, hL2, eb⟩
        | n + 2, hi => exact absurd hi (by simp)
      obtain ⟨L, cs, rfl, hL, ec⟩ := hy
      refine ⟨_, rfl, L, cs.map V.ref, rfl, .inl (.inl (s23 _ _ hL)), for_it (walk_enum (K := K) (a := L) (xs := cs.map V.ref)) (fun _ σ H' => Same H2 H' ∧ ∃ k e : Option V, σ = [some (.ref a), some v, some (.ref m), some (.ref L), k, e, none, none, none])
        ⟨s23, k, e, rfl⟩ (fun _ _ _ _ ⟨s, _⟩ => .inl (.inl (s _ _ hL))) ?_ (fun σ' H' ⟨s, k, e, r⟩ => ⟨s, _, k, e, r⟩)⟩
      rintro j x σ H4 H5 hj ⟨s24, k, e, rfl⟩ ⟨T, x1, x2, rfl, hT, rfl, h1, h2⟩
      obtain rfl := Option.some.inj h1
      have h2 : (cs.map V.ref)[j]? = some x2 := h2
      rw [List.getElem?_map] at h2
      obtain ⟨b, hb1, rfl⟩ := Option.map_eq_some_iff.mp h2
      obtain ⟨C, fld, dd, hc, hx⟩ := ec.at hb1
      obtain ⟨hj45, rfl, rfl⟩ := cf_at hc
      have s25 := s24.trans (Same.new (o := .tup [V.int (j : Int), V.ref b]) hT)
      refine ⟨T, _, rfl, .inl (.inl upd_same), rfl, _, _, rfl, _, _, rfl, rfl, ?_⟩
      have xm : ∀ {H' : Hp}, Same H2 H' → ExAt H' b (cl K j) dd (fl j) v := fun s => hx.mono fun c o z _ => s c o z
      refine ⟨_, rfl, _, rfl, b, j, some dd, rfl, by omega, ⟨(xm s25).ob, fun d' h => by cases h; exact ⟨_, (xm s25).di⟩⟩, fun H6 s56 => ⟨_, rfl, iteF ?_⟩⟩
      have s26 := s25.trans s56
      refine ⟨_, rfl, _, rfl, b, j, dd, v, rfl, hj45, xm s26, fun H7 s67 => ?_⟩
      have s17 := s12.trans (s26.trans s67)
      refine ⟨v, d, rfl, hv.mono s17, hg.1, hg.2.1, hg.2.2, _, rfl, v, d, rfl, hv.mono s17, hg.1, hg.2.1, hg.2.2, rfl, _, rfl, ?_⟩
      refine ite2 (fun c => ?_) (fun _ => ⟨s26.trans s67, _, _, rfl⟩)
      simp at c
    rintro _ H3 ⟨s13, s, k, e, rfl⟩
    -- those without a field
    refine ⟨fun σ' H' => Same H1 H' ∧ ∃ s k e : Option V, σ' = [some (.ref a), some v, some (.ref m), s, k, e, none, none, none], ?_, ?_⟩
    · refine fun a1 h1 => fun a2 h2 => ⟨by show 2 ≤ sizeLine; decide, fun p hp => ?_⟩
      have n1 := Same.new (o := exo a1 (cl K 45) none) h1
      have n2 := Same.new (o := exo a2 (cl K 46) none) h2
      have n3 := Same.new (o := .lst [V.ref a1, V.ref a2]) hp
      refine ⟨p, _, rfl, .inl (.inl upd_same), ?_⟩
      have hpl : (upd (upd (upd H3 a1 (exo a1 (cl K 45) none)) a2 (exo a2 (cl K 46) none)) p (.lst [V.ref a1, V.ref a2])) p = some (.lst [V.ref a1, V.ref a2]) := upd_same
      have g1 : ExSt (upd (upd (upd H3 a1 (exo a1 (cl K 45) none)) a2 (exo a2 (cl K 46) none)) p (.lst [V.ref a1, V.ref a2])) a1 (cl K 45) none := (ExSt.up (H := upd H3 a1 (exo a1 (cl K 45) none)) n2 ex0).up n3
      have g2 : ExSt (upd (upd (upd H3 a1 (exo a1 (cl K 45) none)) a2 (exo a2 (cl K 46) none)) p (.lst [V.ref a1, V.ref a2])) a2 (cl K 46) none := ex0.up n3
      have s14 : Same H1 (upd (upd (upd H3 a1 (exo a1 (cl K 45) none)) a2 (exo a2 (cl K 46) none)) p (.lst [V.ref a1, V.ref a2])) := s13.trans (n1.trans (n2.trans n3))
      obtain ⟨H4, hH4⟩ : ∃ H4, H4 = upd (upd (upd H3 a1 (exo a1 (cl K 45) none)) a2 (exo a2 (cl K 46) none)) p (.lst [V.ref a1, V.ref a2]) := ⟨_, rfl⟩
      rw [← hH4] at hpl g1 g2 s14
      refine for_it (walk_enum (K := K) (a := p) (xs := [V.ref a1, V.ref a2])) (fun _ σ H' => Same H4 H' ∧ ∃ k e : Option V, σ = [some (.ref a), some v, some (.ref m), s, k, e, none, none, none])
        ⟨by rw [hH4]; exact Same.refl _, k, e, rfl⟩ (fun _ _ _ _ ⟨s, _⟩ => .inl (.inl (s _ _ hpl))) ?_ (fun σ' H' ⟨s2, k, e, r⟩ => ⟨s14.trans s2, s, k, e, r⟩)
      rintro j x σ H5 H6 hj ⟨s45, k, e, rfl⟩ ⟨T, x1, x2, rfl, hT, rfl, h1, h2⟩
      obtain rfl := Option.some.inj h1
      have hy : ∃ b : Addr, x2 = .ref b ∧ j < 2 ∧ ExSt H4 b (cl K (45 + j)) none := by
        match j, h2 with
        | 0, h2 => exact ⟨a1, (Option.some.inj h2).symm, by decide, g1⟩
        | 1, h2 => exact ⟨a2, (Option.some.inj h2).symm, by decide, g2⟩
        | n + 2, h2 => exact absurd h2 (by simp)
      obtain ⟨b, rfl, hj2, gb⟩ := hy
      have s46 := s45.trans (Same.new (o := .tup [V.int (j : Int), V.ref b]) hT)
      refine ⟨T, _, rfl, .inl (.inl upd_same), rfl, _, _, rfl, _, _, rfl, rfl, ?_⟩
      refine ⟨_, rfl, _, rfl, _, _, rfl, rfl, b, 45 + j, none, congrArg (fun z => [V.ref b, V.int z]) (by omega), by omega, gb.up s46, fun H7 s67 => ⟨_, rfl, iteF ⟨s46.trans s67, _, _, rfl⟩⟩⟩
    rintro _ H4 ⟨s14, s, k, e, rfl⟩
    -- the bases themselves
    refine ⟨fun σ' H' => Same H1 H' ∧ ∃ b x0 x1 x2 : Addr, σ' = [some (.ref a), some v, some (.ref m), s, k, e, some (.ref b), none, none] ∧ H' b = some (.lst [.ref x0, .ref x1, .ref x2]) ∧
      ExSt H' x0 (cl K 47) none ∧ ExSt H' x1 (cl K 48) none ∧ ExSt H' x2 (cl K 49) none, ?_, ?_⟩
    · refine fun x0 h0 => fun x1 h1 => fun x2 h2 => ⟨by show 3 ≤ sizeLine; decide, fun b hb0 => ?_⟩
      have n0 := Same.new (o := exo x0 (cl K 47) none) h0
      have n1 := Same.new (o := exo x1 (cl K 48) none) h1
      have n2 := Same.new (o := exo x2 (cl K 49) none) h2
      have n3 := Same.new (o := .lst [V.ref x0, V.ref x1, V.ref x2]) hb0
      exact ⟨s14.trans (n0.trans (n1.trans (n2.trans n3))), b, x0, x1, x2, rfl, upd_same, ex0.up (n1.trans (n2.trans n3)), ex0.up (n2.trans n3), ex0.up n3⟩
    rintro _ H5 ⟨s15, b, x0, x1, x2, rfl, hb5, g0, g1, g2⟩
    have xs : ∀ i, i < 3 → ∃ xi : Addr, [V.ref x0, V.ref x1, V.ref x2].getD i .non = .ref xi ∧ ExSt H5 xi (cl K (47 + i)) none := by
      intro i hi
      match i, hi with
      | 0, _ => exact ⟨x0, rfl, g0⟩
      | 1, _ => exact ⟨x1, rfl, g1⟩
      | 2, _ => exact ⟨x2, rfl, g2⟩
      | n + 3, h => omega
    have yv : ∀ (i : Nat) (H : Hp) (x : V) (H' : Hp), i < [V.ref x0, V.ref x1, V.ref x2].length → YAt [V.ref x0, V.ref x1, V.ref x2] i H x H' → H' = H ∧ x = [V.ref x0, V.ref x1, V.ref x2].getD i .non := fun i H x H' _ y => ⟨y.1, by
      rw [List.getD_eq_getElem?_getD, y.2] <;> rfl⟩
    -- their sorts
    refine ⟨fun σ' H' => Same H5 H' ∧ σ' = [some (.ref a), some v, some (.ref m), s, k, e, some (.ref b), none, none], ?_, ?_⟩
    · refine ⟨_, rfl, b, rfl, ⟨_, .inl (.inl hb5)⟩, fun D hD => lc_ll (walk_list (K := K) (a := b) (xs := [V.ref x0, V.ref x1, V.ref x2])) (fun i => [V.ref x0, V.ref x1, V.ref x2].getD i .non) (fun _ => []) hD (by show 3 ≤ 1000; decide) yv
        (fun H' e => .inl (.inl (e _ _ hb5))) (fun _ => rfl) (fun i H' hi e => ?_) (fun ps H6 e6 hD6 ll => ?_)⟩
      · obtain ⟨xi, ex, gx⟩ := xs i hi
        simp only [ex]
        refine fun H0 e0 Q q => ⟨_, rfl, xi, 47 + i, none, rfl, by have : i < 3 := hi; omega, gx.up (e.trans e0), fun p H'' hp s h => q p H'' hp s (h.trans ?_)⟩
        unfold sorted
        rw [if_neg (by omega)]
      · refine ⟨by show 0 ≤ sizeLine; decide, fun y0 hy0 => ⟨by show 0 ≤ sizeLine; decide, fun y1 hy1 => ⟨by show 0 ≤ sizeLine; decide, fun y2 hy2 => ⟨by show 3 ≤ sizeLine; decide, fun y3 hy3 => ?_⟩⟩⟩⟩
        have n0 := Same.new (o := .lst []) hy0
        have n1 := Same.new (o := .lst []) hy1
        have n2 := Same.new (o := .lst []) hy2
        have n3 := Same.new (o := .lst [V.ref y0, V.ref y1, V.ref y2]) hy3
        have t2 := n2.trans n3
        have t1 := n1.trans t2
        have t0 := n0.trans t1
        refine ⟨.list [.list [], .list [], .list []], .list [.list [], .list [], .list []], .lst (.inl (.inl (t0 _ _ hD6))) (dp_ll (c := fun _ => []) (d := fun _ => []) (fun _ => .nil) (n := 3) (ll.mono fun p _ o z => t0 p o z)),
          .lst (.inl (.inl upd_same)) (.cons (.lst (.inl (.inl (t1 _ _ upd_same))) .nil) (.cons (.lst (.inl (.inl (t2 _ _ upd_same))) .nil) (.cons (.lst (.inl (.inl (n3 _ _ upd_same))) .nil) .nil))), sh4.1, sh4.1, _, rfl, ?_⟩
        rw [sh4.2]
        exact iteF ⟨Same.trans e6 t0, rfl⟩
    rintro _ H6 ⟨s56, rfl⟩
    -- their bases
    refine ⟨fun σ' H' => Same H6 H' ∧ σ' = [some (.ref a), some v, some (.ref m), s, k, e, some (.ref b), none, none], ?_, ?_⟩
    · refine ⟨_, rfl, b, rfl, ⟨_, .inl (.inl (s56 _ _ hb5))⟩, fun D hD => lc_ll (walk_list (K := K) (a := b) (xs := [V.ref x0, V.ref x1, V.ref x2])) (fun i => [V.ref x0, V.ref x1, V.ref x2].getD i .non) (fun i => (bd (47 + i)).map V.bl) hD (by show 3 ≤ 1000; decide) yv
        (fun H' e => .inl (.inl (e _ _ (s56 _ _ hb5)))) (fun _ => rfl) (fun i H' hi e => ?_) (fun ps H7 e7 hD7 ll => ?_)⟩
      · obtain ⟨xi, ex, gx⟩ := xs i hi
        simp only [ex]
        exact fun H0 e0 Q q => ⟨_, rfl, xi, 47 + i, none, rfl, by have : i < 3 := hi; omega, (gx.up s56).up (e.trans e0), fun p H'' hp s h => q p H'' hp s (h.trans (by rw [based_eq]))⟩
      · refine ⟨3, rfl, by decide, by decide, fun D2 hD2 => lc_ll (n := 3) (walk_range (lo := 0) (n := 3)) (fun i => .int (i : Int)) (fun i => (List.replicate 2 (given 3 (fun _ => true) (bv i))).flatten) hD2 (by decide)
          (fun i H x H' _ y => ⟨y.1, y.2.trans (congrArg V.int (Int.zero_add _))⟩) (fun _ _ => True.intro) (fun _ => rfl) (fun i H' hi e9 => ?_) (fun qs H8 e8 hD8 ll2 => ?_)⟩
        · refine fun H0 e0 Q q => ?_
          have cmp : EvL (tLc (iRng1 (tCons (tC (.int 3)) tNil)) (gName 8) tYes (tOp rEq (tVar 8) (tVar 4)) [8]) [some (.ref a), some v, some (.ref m), s, some (.int (i : Int)), e, some (.ref b), none, none] H0 (given (3 : Int).toNat (fun _ => true) (bv i)) :=
            el_lcR1 (n := 3) (fun _ => true) (bv i) (ea_cons ev_c ea_nil) (by decide) (fun _ => rfl) (fun k H1 e hk => fun H2 _ Q q => q H2 (Evl.Ex.refl H2))
              (fun k H1 e hk _ => ev_op (x := .int (k : Int)) (y := .int (i : Int)) (ev_var rfl) (ev_var rfl) (rv_eq rfl))
          refine cmp H0 (Evl.Ex.refl H0) _ fun p3 H3 hp3 s5 h3 => ?_
          exact ⟨p3, 2, _, rfl, rfl, h3, by decide, by decide, Nat.le_trans (Nat.mul_le_mul_right _ (given_len _ _ _)) (by decide), fun p4 hp4 => q p4 _ (fresh_back s5 hp4) (s5.trans (Evl.Ex.new hp4)) upd_same⟩
        · rw [rows3] at ll2
          refine ⟨.list ((List.range 3).map fun k => .list ((bd (47 + k)).map PyData.bool)), .list ((List.range 3).map fun k => .list ((bd (47 + k)).map PyData.bool)),
            .lst (.inl (.inl (e8 _ _ hD7))) (dp_ll (c := fun i => (bd (47 + i)).map V.bl) (d := fun i => (bd (47 + i)).map PyData.bool) (fun k => dp_bls _) (n := 3) (ll.mono fun p _ o z => e8 p o z)),
            .lst (.inl (.inl hD8)) (dp_ll (c := fun i => (bd (47 + i)).map V.bl) (d := fun i => (bd (47 + i)).map PyData.bool) (fun k => dp_bls _) (n := 3) ll2), sh3.1, sh3.1, _, rfl, ?_⟩
          rw [sh3.2]
          exact iteF ⟨Same.trans e7 e8, rfl⟩
    rintro _ H7 ⟨s67, rfl⟩
    -- the limits
    have s17 : Same H1 H7 := s15.trans (s56.trans s67)
    refine ⟨fun σ' H' => Same H1 H' ∧ ∃ p : Addr, σ' = [some (.ref a), some v, some (.ref m), s, k, e, some (.ref b), some (.ref p), none] ∧ H' p = some (.lst ([4000, 10, 8, 4, 40, 9, 100, 6].map V.int)), ?_, ?_⟩
    · exact ⟨by show 8 ≤ sizeLine; decide, fun p hp => ⟨s17.trans (Same.new hp), p, rfl, upd_same⟩⟩
    rintro _ H8 ⟨s18, p, rfl, hp8⟩
    refine ⟨fun σ' H' => Same H1 H' ∧ ∃ p : Addr, σ' = [some (.ref a), some v, some (.ref m), s, k, e, some (.ref b), some (.ref p), none] ∧ H' p = some (.lst (told.map V.int)), ?_, ?_⟩
    · refine ⟨_, rfl, by show 6 ≤ sizeLine; decide, fun z hz => ⟨p, z, _, _, rfl, rfl, Same.new hz _ _ hp8, upd_same, by show 14 ≤ sizeLine; decide, fun y hy => ?_⟩⟩
      exact ⟨s18.trans ((Same.new hz).trans (Same.new hy)), y, rfl, upd_same⟩
    rintro _ H9 ⟨s19, p2, rfl, hp9⟩
    refine ⟨_, rfl, _, toldD, rfl, .lst (.inl hp9) (dv_ints told), told_good.1, told_good.2.1, told_good.2.2, rfl, ?_⟩
    rw [told_eq]
    exact hQ _ (hb.same s19)
end
end K01
namespace K01
open PySem PySem.Spec PyProof.Rows L2 Tc Evl
/-- what the text says of an exception's __init__ -/
structure InitOk (e : Str × Str × Kin × Nat) : Prop where
  body : ∃ q1 q2 q3 q4 : Pos, defBody (inClass (topS e.2.2.2) 0) = [.Assign [.Attribute (.Name "self" q1) e.2.1 q2] (.Name e.2.1 q3) q4]
  scope : defScope (inClass (topS e.2.2.2) 0) = { kind := .function, names := [("self", .local), (e.2.1, .local)], isGenerator := false, isCoroutine := false, more := [] }
  b1 : ∀ (qual : Str) (kV doc pm : Value) (an : Option Addr) (cdv ct u : Value) (y : Addr), bindArgs (PySem.W.fnOf "__init__" qual (defArgs (inClass (topS e.2.2.2) 0)) (defBody (inClass (topS e.2.2.2) 0)) (defScope (inClass (topS e.2.2.2) 0)) .none kV doc pm an cdv ct) ⟨[.ref y, u], []⟩ = (pure [(("self" : Str), Value.ref y), (e.2.1, u)] : Sem (List (Str × Value)))
  b2 : ∀ (qual : Str) (kV doc pm : Value) (an : Option Addr) (cdv ct u : Value) (y : Addr), bindArgs (PySem.W.fnOf "__init__" qual (defArgs (inClass (topS e.2.2.2) 0)) (defBody (inClass (topS e.2.2.2) 0)) (defScope (inClass (topS e.2.2.2) 0)) .none kV doc pm an cdv ct) ⟨[.ref y], [(e.2.1, u)]⟩ = (pure [(("self" : Str), Value.ref y), (e.2.1, u)] : Sem (List (Str × Value)))
  fld : FieldName e.2.1
theorem inits0 : ∀ e ∈ exs0, InitOk e := by
  unfold exs0
  refine List.forall_mem_cons.2 ⟨⟨⟨_, _, _, _, rfl⟩, rfl, fun _ _ _ _ _ _ _ _ _ => rfl, fun _ _ _ _ _ _ _ _ _ => rfl, .inl rfl⟩, ?_⟩
  refine List.forall_mem_cons.2 ⟨⟨⟨_, _, _, _, rfl⟩, rfl, fun _ _ _ _ _ _ _ _ _ => rfl, fun _ _ _ _ _ _ _ _ _ => rfl, .inl rfl⟩, ?_⟩
  refine List.forall_mem_cons.2 ⟨⟨⟨_, _, _, _, rfl⟩, rfl, fun _ _ _ _ _ _ _ _ _ => rfl, fun _ _ _ _ _ _ _ _ _ => rfl, .inl rfl⟩, ?_⟩
  refine List.forall_mem_cons.2 ⟨⟨⟨_, _, _, _, rfl⟩, rfl, fun _ _ _ _ _ _ _ _ _ => rfl, fun _ _ _ _ _ _ _ _ _ => rfl, .inl rfl⟩, ?_⟩
  refine List.forall_mem_cons.2 ⟨⟨⟨_, _, _, _, rfl⟩, rfl, fun _ _ _ _ _ _ _ _ _ => rfl, fun _ _ _ _ _ _ _ _ _ => rfl, .inl rfl⟩, ?_⟩
  refine List.forall_mem_cons.2 ⟨⟨⟨_, _, _, _, rfl⟩, rfl, fun _ _ _ _ _ _ _ _ _ => rfl, fun _ _ _ _ _ _ _ _ _ => rfl, .inl rfl⟩, ?_⟩
  refine List.forall_mem_cons.2 ⟨⟨⟨_, _, _, _, rfl⟩, rfl, fun _ _ _ _ _ _ _ _ _ => rfl, fun _ _ _ _ _ _ _ _ _ => rfl, .inl rfl⟩, ?_⟩
  refine List.forall_mem_cons.2 ⟨⟨⟨_, _, _, _, rfl⟩, rfl, fun _ _ _ _ _ _ _ _ _ => rfl, fun _ _ _ _ _ _ _ _ _ => rfl, .inl rfl⟩, ?_⟩
  refine List.forall_mem_cons.2 ⟨⟨⟨_, _, _, _, rfl⟩, rfl, fun _ _ _ _ _ _ _ _ _ => rfl, fun _ _ _ _ _ _ _ _ _ => rfl, .inl rfl⟩, ?_⟩
  refine List.forall_mem_cons.2 ⟨⟨⟨_, _, _, _, rfl⟩, rfl, fun _ _ _ _ _ _ _ _ _ => rfl, fun _ _ _ _ _ _ _ _ _ => rfl, .inl rfl⟩, ?_⟩
  refine List.forall_mem_cons.2 ⟨⟨⟨_, _, _, _, rfl⟩, rfl, fun _ _ _ _ _ _ _ _ _ => rfl, fun _ _ _ _ _ _ _ _ _ => rfl, .inl rfl⟩, ?_⟩
  refine List.forall_mem_cons.2 ⟨⟨⟨_, _, _, _, rfl⟩, rfl, fun _ _ _ _ _ _ _ _ _ => rfl, fun _ _ _ _ _ _ _ _ _ => rfl, .inl rfl⟩, ?_⟩
  refine List.forall_mem_cons.2 ⟨⟨⟨_, _, _, _, rfl⟩, rfl, fun _ _ _ _ _ _ _ _ _ => rfl, fun _ _ _ _ _ _ _ _ _ => rfl, .inl rfl⟩, ?_⟩
  refine List.forall_mem_cons.2 ⟨⟨⟨_, _, _, _, rfl⟩, rfl, fun _ _ _ _ _ _ _ _ _ => rfl, fun _ _ _ _ _ _ _ _ _ => rfl, .inl rfl⟩, ?_⟩
  refine List.forall_mem_cons.2 ⟨⟨⟨_, _, _, _, rfl⟩, rfl, fun _ _ _ _ _ _ _ _ _ => rfl, fun _ _ _ _ _ _ _ _ _ => rfl, .inl rfl⟩, ?_⟩
  exact fun e h => absurd h List.not_mem_nil
theorem inits1 : ∀ e ∈ exs1, InitOk e := by
  unfold exs1
  refine List.forall_mem_cons.2 ⟨⟨⟨_, _, _, _, rfl⟩, rfl, fun _ _ _ _ _ _ _ _ _ => rfl, fun _ _ _ _ _ _ _ _ _ => rfl, .inl rfl⟩, ?_⟩
  refine List.forall_mem_cons.2 ⟨⟨⟨_, _, _, _, rfl⟩, rfl, fun _ _ _ _ _ _ _ _ _ => rfl, fun _ _ _ _ _ _ _ _ _ => rfl, .inl rfl⟩, ?_⟩
  refine List.forall_mem_cons.2 ⟨⟨⟨_, _, _, _, rfl⟩, rfl, fun _ _ _ _ _ _ _ _ _ => rfl, fun _ _ _ _ _ _ _ _ _ => rfl, .inl rfl⟩, ?_⟩
  refine List.forall_mem_cons.2 ⟨⟨⟨_, _, _, _, rfl⟩, rfl, fun _ _ _ _ _ _ _ _ _ => rfl, fun _ _ _ _ _ _ _ _ _ => rfl, .inl rfl⟩, ?_⟩
  refine List.forall_mem_cons.2 ⟨⟨⟨_, _, _, _, rfl⟩, rfl, fun _ _ _ _ _ _ _ _ _ => rfl, fun _ _ _ _ _ _ _ _ _ => rfl, .inl rfl⟩, ?_⟩
  refine List.forall_mem_cons.2 ⟨⟨⟨_, _, _, _, rfl⟩, rfl, fun _ _ _ _ _ _ _ _ _ => rfl, fun _ _ _ _ _ _ _ _ _ => rfl, .inl rfl⟩, ?_⟩
  refine List.forall_mem_cons.2 ⟨⟨⟨_, _, _, _, rfl⟩, rfl, fun _ _ _ _ _ _ _ _ _ => rfl, fun _ _ _ _ _ _ _ _ _ => rfl, .inl rfl⟩, ?_⟩
  refine List.forall_mem_cons.2 ⟨⟨⟨_, _, _, _, rfl⟩, rfl, fun _ _ _ _ _ _ _ _ _ => rfl, fun _ _ _ _ _ _ _ _ _ => rfl, .inl rfl⟩, ?_⟩
  refine List.forall_mem_cons.2 ⟨⟨⟨_, _, _, _, rfl⟩, rfl, fun _ _ _ _ _ _ _ _ _ => rfl, fun _ _ _ _ _ _ _ _ _ => rfl, .inl rfl⟩, ?_⟩
  refine List.forall_mem_cons.2 ⟨⟨⟨_, _, _, _, rfl⟩, rfl, fun _ _ _ _ _ _ _ _ _ => rfl, fun _ _ _ _ _ _ _ _ _ => rfl, .inl rfl⟩, ?_⟩
  refine List.forall_mem_cons.2 ⟨⟨⟨_, _, _, _, rfl⟩, rfl, fun _ _ _ _ _ _ _ _ _ => rfl, fun _ _ _ _ _ _ _ _ _ => rfl, .inl rfl⟩, ?_⟩
  refine List.forall_mem_cons.2 ⟨⟨⟨_, _, _, _, rfl⟩, rfl, fun _ _ _ _ _ _ _ _ _ => rfl, fun _ _ _ _ _ _ _ _ _ => rfl, .inl rfl⟩, ?_⟩
  refine List.forall_mem_cons.2 ⟨⟨⟨_, _, _, _, rfl⟩, rfl, fun _ _ _ _ _ _ _ _ _ => rfl, fun _ _ _ _ _ _ _ _ _ => rfl, .inl rfl⟩, ?_⟩
  refine List.forall_mem_cons.2 ⟨⟨⟨_, _, _, _, rfl⟩, rfl, fun _ _ _ _ _ _ _ _ _ => rfl, fun _ _ _ _ _ _ _ _ _ => rfl, .inl rfl⟩, ?_⟩
  refine List.forall_mem_cons.2 ⟨⟨⟨_, _, _, _, rfl⟩, rfl, fun _ _ _ _ _ _ _ _ _ => rfl, fun _ _ _ _ _ _ _ _ _ => rfl, .inl rfl⟩, ?_⟩
  exact fun e h => absurd h List.not_mem_nil
theorem inits2 : ∀ e ∈ exs2, InitOk e := by
  unfold exs2
  refine List.forall_mem_cons.2 ⟨⟨⟨_, _, _, _, rfl⟩, rfl, fun _ _ _ _ _ _ _ _ _ => rfl, fun _ _ _ _ _ _ _ _ _ => rfl, .inl rfl⟩, ?_⟩
  refine List.forall_mem_cons.2 ⟨⟨⟨_, _, _, _, rfl⟩, rfl, fun _ _ _ _ _ _ _ _ _ => rfl, fun _ _ _ _ _ _ _ _ _ => rfl, .inl rfl⟩, ?_⟩
  refine List.forall_mem_cons.2 ⟨⟨⟨_, _, _, _, rfl⟩, rfl, fun _ _ _ _ _ _ _ _ _ => rfl, fun _ _ _ _ _ _ _ _ _ => rfl, .inl rfl⟩, ?_⟩
  refine List.forall_mem_cons.2 ⟨⟨⟨_, _, _, _, rfl⟩, rfl, fun _ _ _ _ _ _ _ _ _ => rfl, fun _ _ _ _ _ _ _ _ _ => rfl, .inr rfl⟩, ?_⟩
  refine List.forall_mem_cons.2 ⟨⟨⟨_, _, _, _, rfl⟩, rfl, fun _ _ _ _ _ _ _ _ _ => rfl, fun _ _ _ _ _ _ _ _ _ => rfl, .inr rfl⟩, ?_⟩
  refine List.forall_mem_cons.2 ⟨⟨⟨_, _, _, _, rfl⟩, rfl, fun _ _ _ _ _ _ _ _ _ => rfl, fun _ _ _ _ _ _ _ _ _ => rfl, .inr rfl⟩, ?_⟩
  refine List.forall_mem_cons.2 ⟨⟨⟨_, _, _, _, rfl⟩, rfl, fun _ _ _ _ _ _ _ _ _ => rfl, fun _ _ _ _ _ _ _ _ _ => rfl, .inr rfl⟩, ?_⟩
  refine List.forall_mem_cons.2 ⟨⟨⟨_, _, _, _, rfl⟩, rfl, fun _ _ _ _ _ _ _ _ _ => rfl, fun _ _ _ _ _ _ _ _ _ => rfl, .inr rfl⟩, ?_⟩
  refine List.forall_mem_cons.2 ⟨⟨⟨_, _, _, _, rfl⟩, rfl, fun _ _ _ _ _ _ _ _ _ => rfl, fun _ _ _ _ _ _ _ _ _ => rfl, .inr rfl⟩, ?_⟩
  refine List.forall_mem_cons.2 ⟨⟨⟨_, _, _, _, rfl⟩, rfl, fun _ _ _ _ _ _ _ _ _ => rfl, fun _ _ _ _ _ _ _ _ _ => rfl, .inr rfl⟩, ?_⟩
  refine List.forall_mem_cons.2 ⟨⟨⟨_, _, _, _, rfl⟩, rfl, fun _ _ _ _ _ _ _ _ _ => rfl, fun _ _ _ _ _ _ _ _ _ => rfl, .inr rfl⟩, ?_⟩
  refine List.forall_mem_cons.2 ⟨⟨⟨_, _, _, _, rfl⟩, rfl, fun _ _ _ _ _ _ _ _ _ => rfl, fun _ _ _ _ _ _ _ _ _ => rfl, .inl rfl⟩, ?_⟩
  refine List.forall_mem_cons.2 ⟨⟨⟨_, _, _, _, rfl⟩, rfl, fun _ _ _ _ _ _ _ _ _ => rfl, fun _ _ _ _ _ _ _ _ _ => rfl, .inr rfl⟩, ?_⟩
  refine List.forall_mem_cons.2 ⟨⟨⟨_, _, _, _, rfl⟩, rfl, fun _ _ _ _ _ _ _ _ _ => rfl, fun _ _ _ _ _ _ _ _ _ => rfl, .inl rfl⟩, ?_⟩
  refine List.forall_mem_cons.2 ⟨⟨⟨_, _, _, _, rfl⟩, rfl, fun _ _ _ _ _ _ _ _ _ => rfl, fun _ _ _ _ _ _ _ _ _ => rfl, .inr rfl⟩, ?_⟩
  exact fun e h => absurd h List.not_mem_nil
theorem inits : ∀ e ∈ exs, InitOk e := fun e h => (List.mem_append.mp h).elim (inits0 e) fun h => (List.mem_append.mp h).elim (inits1 e) (inits2 e)
/-! ### the law -/
section
variable {P : Program} {w : World} {K : PySem.W.Frag} {mg : Str → Option Value} {base : Heap}
theorem sc_law : FnScope ["_law_script", "_law_k"] ["_law_script"] (defScope s_law) := ⟨rfl, rfl, rfl, by decide +kernel, rfl, by decide +kernel, by decide +kernel⟩
theorem g_law : ∀ x ∈ (["range", "_law_right", "_law_jar"] : List Str), (defScope s_law).names.lookup x = some .globalImplicit := by decide +kernel
def spLaw (K : PySem.W.Frag) : Sp := fun vs H Q _ => ∃ (a : Addr) (ns : List Int), vs = [.ref a] ∧ SqL K H a (ns.map V.int) ∧ ns.length ≤ 63 ∧ ∀ H', Q (.bl true) H'
theorem sq_but {H H' : Hp} {a p : Addr} {xs : List V} (h : SqL K H a xs) (hp : H p = none) (b : ∀ c o, H c = some o → c ≠ p → H' c = some o) : SqL K H' a xs := by
  rcases h with (h | ⟨o, h⟩) | h
  · exact .inl (.inl (b _ _ h (ne_of_none h hp)))
  · exact .inl (.inr ⟨o, b _ _ h (ne_of_none h hp)⟩)
  · exact .inr h
theorem ok_law {f : Addr} {fd : FuncData} (F : Fun K "law" "law" s_law f fd) (B : Bl mg)
    (DJ : Call P w K mg base CX0 1 "_law_jar" ["_law_script", "_law_k"] (spJar K)) (DR : Call P w K mg base CX0 5 "_law_right" ["_law_jar_here"] spRight) :
    FnG P w K mg base CX0 6 f fd ["_law_script"] (spLaw K) := by
  refine Fun.okG F sc_law (fun vs H Q E h => ?_) (fun cdv A outer s H vs Q E hr hgd h => ?_)
  · obtain ⟨a, ns, rfl, _⟩ := h
    rfl
  · obtain ⟨a, ns, rfl, hS, hl, hQ⟩ := h
    refine ⟨_, pss_cons (ps_for PassesOwn.leaving rfl (pi_range1 (g_law _ (.head _)) B.range (pa_cons pe_int pa_nil)) (pg_name (i := 1) sc_law.nd rfl (.inl rfl))
      (pss_one (ps_if (pt_not (pt_val (pe_do DR (hr.mono (by decide)) hgd (g_law _ (.tail _ (.head _))) pass0
        (pa_cons (pe_do DJ (hr.mono (by decide)) hgd (g_law _ (.tail _ (.tail _ (.head _)))) pass0 (pa_cons (pv 0) (pa_cons (pv 1) pa_nil))) pa_nil)))) (pss_one (ps_ret pe_bl)) pss_nil)))
      (pss_one (ps_ret pe_bl)), ?_⟩
    refine s_forR1 (n := 2) (ea_cons ev_c ea_nil) (by decide) (fun _ σ H' => SqL K H' a (ns.map V.int) ∧ ∃ k : Option V, σ = [some (.ref a), k]) (fun H1 e => ⟨Same.seq e hS, none, rfl⟩) ?_ (fun σ' H' _ => hQ H')
    rintro i σ H1 hi ⟨h1, k, rfl⟩
    refine ⟨_, rfl, _, rfl, a, ns, i, rfl, by omega, h1, hl, fun H2 p hp s hj => ⟨p, rfl, hj, fun H3 b => ⟨_, rfl, iteF ⟨?_, _, rfl⟩⟩⟩⟩
    exact sq_but h1 hp fun c o z n => b c o (s c o z) n
end
/-! ### the head's facts -/
theorem allB {α : Type} {l : List α} {p : α → Bool} (h : l.all p = true) {x : α} (hx : x ∈ l) : p x = true := List.all_eq_true.mp h x hx
section
variable {K : PySem.W.Frag} {h : Heap} {mg : Str → Option Value}
structure Parts (K : PySem.W.Frag) : Prop where
  exk : ∀ e ∈ exs, exkB K e.2.2.1 e.1 e.2.1 = true
  exa : ∀ e ∈ alls, exaB K e.1 = true ∧ (He.Fa.glo e.1).ok K = true
  exs' : exsB K = true
  bare : ∀ e ∈ bares, PySem.W.excIn K (He.ga K e.1) e.2.mro e.2.new = true ∧ PySem.W.keepIn K (.ref (He.ga K e.1)) = true
  funs' : ∀ x ∈ funs, (He.Fa.glo x).ok K = true
  free : ∀ x ∈ frees, (He.Fa.free x).ok K = true
  nums' : ∀ e ∈ nums, (He.Fa.int e.1 e.2).ok K = true
  kit : kitB K = true
  sm : (K.lookup sysModules).isSome = true
theorem parts (c : SaysM F fn K) : Parts K := by
  obtain ⟨z1, z⟩ := He.ba c.fact
  obtain ⟨z2, z⟩ := He.ba z
  obtain ⟨z3, z⟩ := He.ba z
  obtain ⟨z4, z⟩ := He.ba z
  obtain ⟨z5, z⟩ := He.ba z
  obtain ⟨z6, z⟩ := He.ba z
  obtain ⟨z7, z⟩ := He.ba z
  obtain ⟨z8, z9⟩ := He.ba z
  exact ⟨fun e he => allB z1 he, fun e he => He.ba (allB z2 he), z3, fun e he => He.ba (allB z4 he), fun x hx => allB z5 hx, fun x hx => allB z6 hx, fun e he => allB z7 he, z8, z9⟩
theorem bl_of (X : K.In h) (G : h.Ns mainGlobals mg) (c : Parts K) : Bl mg := by
  have fr : ∀ x : Str, x ∈ frees → mg x = none := fun x hx => He.free_ok X G (c.free x hx)
  exact ⟨fr _ (by decide +kernel), fr _ (by decide +kernel), fr _ (by decide +kernel), fr _ (by decide +kernel), fr _ (by decide +kernel), fr _ (by decide +kernel), fr _ (by decide +kernel), fr _ (by decide +kernel)⟩
theorem at_exs {i : Nat} {e : Str × Str × Kin × Nat} (h : exs[i]? = some e) : e ∈ exs ∧ i < 45 := ⟨List.mem_of_getElem? h, (List.getElem?_eq_some_iff.mp h).1⟩
theorem alls_lt {i : Nat} {e : Str × Str × Kin × Nat} (q : exs[i]? = some e) : alls[i]? = some (e.1, e.2.2.1) := by
  have hi := (at_exs q).2
  unfold alls
  rw [List.getElem?_append_left (by rw [List.length_map]; exact hi), List.getElem?_map, q] <;> rfl
theorem cl_exs {i : Nat} {e : Str × Str × Kin × Nat} (h : exs[i]? = some e) : cl K i = He.ga K e.1 := by
  unfold cl
  rw [alls_lt h]
theorem cl_alls {i : Nat} {e : Str × Kin} (h : alls[i]? = some e) : cl K i = He.ga K e.1 := by
  unfold cl
  rw [h]
theorem fn_exs {i : Nat} {e : Str × Str × Kin × Nat} (h : exs[i]? = some e) : fn[14 + i]? = some (dInit e) := by
  have l : (fplaces.map dFun).length = 14 := rfl
  unfold fn
  rw [List.getElem?_append_right (by rw [l]; omega), l, Nat.add_sub_cancel_left, List.getElem?_map, h] <;> rfl
theorem fx_of (X : K.In h) (G : h.Ns mainGlobals mg) (s : SaysM F fn K) (c : Parts K) : Fx K mg := by
  refine ⟨fun i e he => ?_⟩
  have hm := (at_exs he).1
  have I := inits e hm
  obtain ⟨fd, Fi⟩ := s.fun_ (14 + i) (st := inClass (topS e.2.2.2) 0) (p := (e.1, some "__init__")) (x := "__init__") (q := e.1 ++ ".__init__") (fn_exs he)
  obtain ⟨q1, q2, q3, q4, hb⟩ := I.body
  refine ⟨⟨_, _, _, _, _, _, fd, exkB_ok (c.exk e hm), I.fld, init_of Fi hb I.scope, ?_, ?_⟩, He.glo_ok X G (c.exa _ (List.mem_of_getElem? (alls_lt he))).2⟩
  · obtain ⟨oc, od, kV, doc, pm, an, cdv, ct, osl, rfl, lk, hcd⟩ := Fi.ex
    exact fun u s y => .of_eq (I.b1 _ kV doc pm an cdv ct u y)
  · obtain ⟨oc, od, kV, doc, pm, an, cdv, ct, osl, rfl, lk, hcd⟩ := Fi.ex
    exact fun u s y => .of_eq (I.b2 _ kV doc pm an cdv ct u y)
theorem nof_of (c : Parts K) : ∀ i : Nat, i < 45 → PySem.W.findIn K (.ref (cl K i)) (fl i) = some none := by
  intro i hi
  have he : exs[i]? = some exs[i] := List.getElem?_eq_getElem hi
  have e1 : fl i = exs[i].2.1 := by
    unfold fl
    rw [he]
  rw [cl_exs he, e1]
  exact (exkB_ok (c.exk _ (at_exs he).1)).noF
theorem alls_ge {j : Nat} {e : Str × Kin} (h45 : 45 ≤ j) (h : alls[j]? = some e) : e ∈ bares := by
  have l : (exs.map fun e => (e.1, e.2.2.1)).length = 45 := rfl
  have a : alls = exs.map (fun e => (e.1, e.2.2.1)) ++ bares := rfl
  rw [a, List.getElem?_append_right (by rw [l]; exact h45)] at h
  exact List.mem_of_getElem? h
theorem nw_of (c : Parts K) : Nw K := by
  refine ⟨fun j x h45 hx => ?_⟩
  obtain ⟨e, he, rfl⟩ := Option.map_eq_some_iff.mp hx
  rw [cl_alls he]
  exact ⟨e.2, c.bare e (alls_ge h45 he)⟩
theorem num_of (X : K.In h) (G : h.Ns mainGlobals mg) (c : Parts K) : ∀ (i : Nat) (x : Str) (n : Int), nums[i]? = some (x, n) → ∃ t, mg x = some (.int n t) :=
  fun i x n e => He.int_ok X G (c.nums' (x, n) (List.mem_of_getElem? e))
theorem nodup_of : ∀ {l : List Nat}, nodupB l = true → l.Nodup
  | [], _ => .nil
  | a :: r, h => by
    obtain ⟨h1, h2⟩ := He.ba h
    refine .cons (fun b hb e => ?_) (nodup_of h2)
    have z := allB h1 hb
    subst e
    simp at z
theorem cl_inj (c : Parts K) {i j : Nat} (hi : i < 50) (hj : j < 50) (e : cl K i = cl K j) : i = j := by
  have nd := nodup_of (He.ba c.kit).2
  have at_ : ∀ k : Nat, k < 50 → (alls.map fun e => He.ga K e.1)[k]? = some (cl K k) := fun k hk => by
    have q : alls[k]? = some alls[k] := List.getElem?_eq_getElem hk
    rw [List.getElem?_map, q, cl_alls q] <;> rfl
  have h1 := at_ i hi
  have h2 := at_ j hj
  rw [e, ← h2] at h1
  exact (List.getElem?_inj (by rw [List.length_map]; exact hi) nd).mp h1
theorem kin_of : ∀ i : Nat, 47 ≤ i → i < 50 → alls[i]?.map (fun e => 47 + kinN e.2) = some i := by
  intro i h1 h2
  have : i = 47 ∨ i = 48 ∨ i = 49 := by omega
  rcases this with rfl | rfl | rfl <;> rfl
theorem base_cl (k : Kin) : He.ga K (baseOf k) = cl K (47 + kinN k) := by
  cases k
  · exact (cl_alls (i := 47) (e := al1 "WrongValue" .v) rfl).symm
  · exact (cl_alls (i := 48) (e := al1 "WrongName" .l) rfl).symm
  · exact (cl_alls (i := 49) (e := al1 "NotPossible" .a) rfl).symm
theorem beq_ref {a b : Addr} : ((Value.ref a) == (Value.ref b)) = decide (a = b) := by
  by_cases e : a = b
  · subst e
    simp
  · rw [decide_eq_false e]
    exact beq_eq_false_iff_ne.mpr fun z => e (Value.ref.inj z)
theorem kit_of (c : Parts K) : ∀ i j : Nat, i < 50 → j < 53 → ∃ u, ClsV (cv K j) u ∧ PySem.W.kitOne K (.ref (cl K i)) u = some (says i j) := by
  intro i j hi hj
  have ci : ∀ k : Nat, k < 50 → ∃ e cd, alls[k]? = some e ∧ PySem.W.clsIn K (cl K k) = some cd ∧ cd.mro = mroOf K k e.1 e.2 ∧ PySem.W.typeIn K (.ref (cl K k)) = some (.type "type") := by
    intro k hk
    obtain ⟨e0, q⟩ : ∃ e, alls[k]? = some e := ⟨_, List.getElem?_eq_getElem hk⟩
    have z := allB (He.ba c.kit).1 (List.mem_range.mpr hk)
    rw [q] at z
    obtain ⟨z1, z2⟩ := He.ba z
    refine ⟨e0, ?_⟩
    rw [cl_alls q]
    cases w : PySem.W.clsIn K (He.ga K e0.1) with
    | none =>
      rw [w] at z1
      cases z1
    | some cd =>
      rw [w] at z1
      exact ⟨cd, q, rfl, of_decide_eq_true z1, of_decide_eq_true z2⟩
  obtain ⟨e, cd, he, hc, hm, _⟩ := ci i hi
  have hsay : says i j = (decide (i = j) || (decide (47 + kinN e.2 = j) || decide (50 + kinN e.2 = j))) := by
    unfold says
    rw [he]
  have hk3 : kinN e.2 < 3 := by cases e.2 <;> decide
  have mro : ∀ v : Value, PySem.W.subIn K (.ref (cl K i)) v = some ((mroOf K i e.1 e.2).contains v) := by
    intro v
    show (PySem.W.clsIn K (cl K i)).bind _ = _
    rw [hc]
    show (if cd.mro.isEmpty then none else some (cd.mro.contains v)) = _
    rw [hm] <;> rfl
  by_cases hj50 : j < 50
  · refine ⟨.ref (cl K j), by unfold cv; rw [if_pos hj50]; exact .own _, ?_⟩
    unfold PySem.W.kitOne
    rw [beq_ref]
    by_cases eij : i = j
    · subst eij
      rw [if_pos (by simp), hsay]
      simp
    · have ne : cl K i ≠ cl K j := fun z => eij (cl_inj c hi hj50 z)
      rw [if_neg (by simpa using ne)]
      obtain ⟨e2, cd2, _, hc2, _, ht2⟩ := ci j hj50
      unfold PySem.W.kitCls
      show (if ((PySem.W.clsIn K (cl K j)).isSome && PySem.W.typeIn K (.ref (cl K j)) == some (.type "type")) = true then PySem.W.subIn K (.ref (cl K i)) (.ref (cl K j)) else none) = _
      rw [hc2, ht2]
      show PySem.W.subIn K (.ref (cl K i)) (.ref (cl K j)) = _
      rw [mro, hsay]
      congr 1
      have n3 : ∀ k : Kin, k.mro.contains (.ref (cl K j)) = false := fun k => by cases k <;> rfl
      have first : (Value.ref (cl K j) == Value.ref (He.ga K e.1)) = false := by
        rw [← cl_alls he, beq_ref]
        exact decide_eq_false fun z => ne z.symm
      have d3 : decide (50 + kinN e.2 = j) = false := decide_eq_false (by omega)
      unfold mroOf
      by_cases h47 : i < 47
      · rw [if_pos h47, List.contains_cons, first, List.cons_append, List.nil_append, List.contains_cons, n3, base_cl, beq_ref, decide_eq_false eij, d3]
        simp only [Bool.false_or, Bool.or_false]
        refine decide_eq_decide.mpr ⟨fun z => (cl_inj c hj50 (by omega) z).symm, fun z => by rw [z]⟩
      · rw [if_neg h47, List.contains_cons, first, List.nil_append, n3, decide_eq_false eij, d3]
        have kk := kin_of i (by omega) hi
        rw [he] at kk
        have kk : 47 + kinN e.2 = i := Option.some.inj kk
        rw [decide_eq_false (by omega : ¬ 47 + kinN e.2 = j)] <;> rfl
  · have hT : ∃ T : String, cv K j = .ty T ∧ PySem.W.kitMeta T = true ∧ ∀ k : Kin, k.mro.contains (.type T) = decide (50 + kinN k = j) := by
      have : j = 50 ∨ j = 51 ∨ j = 52 := by omega
      rcases this with rfl | rfl | rfl
      · exact ⟨"ValueError", rfl, by decide +kernel, fun k => by cases k <;> decide +kernel⟩
      · exact ⟨"LookupError", rfl, by decide +kernel, fun k => by cases k <;> decide +kernel⟩
      · exact ⟨"ArithmeticError", rfl, by decide +kernel, fun k => by cases k <;> decide +kernel⟩
    obtain ⟨T, hcv, hmeta, hcon⟩ := hT
    refine ⟨.type T, by rw [hcv]; exact .ty T, ?_⟩
    unfold PySem.W.kitOne
    have n0 : ∀ a : Addr, ((Value.ref a) == (Value.type T)) = false := fun a => beq_eq_false_iff_ne.mpr fun z => nomatch z
    have n1 : ∀ a : Addr, ((Value.type T) == (Value.ref a)) = false := fun a => beq_eq_false_iff_ne.mpr fun z => nomatch z
    rw [n0, if_neg (by decide)]
    unfold PySem.W.kitCls
    show (if PySem.W.kitMeta T = true then PySem.W.subIn K (.ref (cl K i)) (.type T) else none) = _
    rw [if_pos hmeta, mro, hsay]
    congr 1
    rw [decide_eq_false (by omega : ¬ i = j), decide_eq_false (by omega : ¬ 47 + kinN e.2 = j), ← hcon]
    unfold mroOf
    rw [List.contains_cons, n1]
    by_cases h47 : i < 47
    · rw [if_pos h47, List.cons_append, List.nil_append, List.contains_cons, n1] <;> rfl
    · rw [if_neg h47, List.nil_append] <;> rfl
theorem kx_of (X : K.In h) (G : h.Ns mainGlobals mg) (c : Parts K) : Kx K mg := by
  have fr : ∀ x : Str, x ∈ frees → mg x = none := fun x hx => He.free_ok X G (c.free x hx)
  refine ⟨fun j x hx => ?_, kit_of c, fun i hi => ?_, fr _ (by decide +kernel), fr _ (by decide +kernel), fr _ (by decide +kernel)⟩
  · obtain ⟨e, he, rfl⟩ := Option.map_eq_some_iff.mp hx
    rw [cl_alls he]
    exact He.glo_ok X G (c.exa e (List.mem_of_getElem? he)).2
  · have q : alls[i]? = some alls[i] := List.getElem?_eq_getElem hi
    rw [cl_alls q]
    exact exaB_ok (c.exa _ (List.mem_of_getElem? q)).1 c.exs'
end
section
variable {P : Program} {w : World} {K : PySem.W.Frag} {h : Heap} {mg : Str → Option Value} {f : Addr}
theorem facts (X : K.In h) (G : h.Ns mainGlobals mg) (hfa : mg ("law" : Str) = some (.ref f)) (s : SaysM F fn K) :
    ∃ fd : FuncData, (∀ (s : Shared) (v : Value), BindsTo s fd ⟨[v], []⟩ [("_law_script", v)]) ∧
      ∀ base : Heap, K.In base → base.Ns mainGlobals mg → FnG P w K mg base CX0 6 f fd ["_law_script"] (spLaw K) := by
  have c := parts s
  have B := bl_of X G c
  have T := kx_of X G c
  have FX := fx_of X G s c
  have gl : ∀ x : Str, x ∈ funs → mg x = some (.ref (He.ga K x)) := fun x hx => He.glo_ok X G (c.funs' x hx)
  obtain ⟨fd0, F0⟩ := s.fun_ 0 (st := s_jar) (p := ("_law_jar", none)) (x := "_law_jar") (q := "_law_jar") rfl
  obtain ⟨fd1, F1⟩ := s.fun_ 1 (st := s_draw) (p := ("_law_draw", none)) (x := "_law_draw") (q := "_law_draw") rfl
  obtain ⟨fd2, F2⟩ := s.fun_ 2 (st := s_pick) (p := ("_law_pick", none)) (x := "_law_pick") (q := "_law_pick") rfl
  obtain ⟨fd3, F3⟩ := s.fun_ 3 (st := s_odd) (p := ("_law_odd", none)) (x := "_law_odd") (q := "_law_odd") rfl
  obtain ⟨fd4, F4⟩ := s.fun_ 4 (st := s_values) (p := ("_law_values", none)) (x := "_law_values") (q := "_law_values") rfl
  obtain ⟨fd5, F5⟩ := s.fun_ 5 (st := s_named_values) (p := ("_law_named_values", none)) (x := "_law_named_values") (q := "_law_named_values") rfl
  obtain ⟨fd6, F6⟩ := s.fun_ 6 (st := s_others) (p := ("_law_others", none)) (x := "_law_others") (q := "_law_others") rfl
  obtain ⟨fd7, F7⟩ := s.fun_ 7 (st := s_named_others) (p := ("_law_named_others", none)) (x := "_law_named_others") (q := "_law_named_others") rfl
  obtain ⟨fd8, F8⟩ := s.fun_ 8 (st := s_sort) (p := ("_law_sort", none)) (x := "_law_sort") (q := "_law_sort") rfl
  obtain ⟨fd9, F9⟩ := s.fun_ 9 (st := s_bases) (p := ("_law_bases", none)) (x := "_law_bases") (q := "_law_bases") rfl
  obtain ⟨fd10, F10⟩ := s.fun_ 10 (st := s_is_of) (p := ("_law_is_of", none)) (x := "_law_is_of") (q := "_law_is_of") rfl
  obtain ⟨fd11, F11⟩ := s.fun_ 11 (st := s_kept) (p := ("_law_kept", none)) (x := "_law_kept") (q := "_law_kept") rfl
  obtain ⟨fd12, F12⟩ := s.fun_ 12 (st := s_right) (p := ("_law_right", none)) (x := "_law_right") (q := "_law_right") rfl
  obtain ⟨fd13, F13⟩ := s.fun_ 13 (st := s_law) (p := ("law", none)) (x := "law") (q := "law") rfl
  have e := hfa.symm.trans (gl "law" (by decide +kernel))
  cases e
  refine ⟨fd13, fun s v => ?_, fun base _ _ => ?_⟩
  · obtain ⟨oc, od, kV, doc, pm, an, cdv, ct, osl, rfl, lk, hcd⟩ := F13.ex
    exact .of_eq rfl
  have one : ∀ {x qual : Str} {st : Stmt} {f : Addr} {fd : FuncData} {p : Str} {sp : Sp} {k : Nat} (F : Fun K x qual st f fd) (G : FnG P w K mg base CX0 k f fd [p] sp) (gm : mg x = some (.ref f))
      (h : ∀ (kV doc pm : Value) (an : Option Addr) (cdv ct u : Value), bindArgs (PySem.W.fnOf x qual (defArgs st) (defBody st) (defScope st) .none kV doc pm an cdv ct) ⟨[u], []⟩ = (pure [(p, u)] : Sem (List (Str × Value)))),
      Call P w K mg base CX0 k x [p] sp := fun F G gm h => Call.of F G gm fun kV doc pm an cdv ct us hl => match us, hl with
        | [u], _ => h kV doc pm an cdv ct u
  have two : ∀ {x qual : Str} {st : Stmt} {f : Addr} {fd : FuncData} {p q : Str} {sp : Sp} {k : Nat} (F : Fun K x qual st f fd) (G : FnG P w K mg base CX0 k f fd [p, q] sp) (gm : mg x = some (.ref f))
      (h : ∀ (kV doc pm : Value) (an : Option Addr) (cdv ct u v : Value), bindArgs (PySem.W.fnOf x qual (defArgs st) (defBody st) (defScope st) .none kV doc pm an cdv ct) ⟨[u, v], []⟩ = (pure [(p, u), (q, v)] : Sem (List (Str × Value)))),
      Call P w K mg base CX0 k x [p, q] sp := fun F G gm h => Call.of F G gm fun kV doc pm an cdv ct us hl => match us, hl with
        | [u, v], _ => h kV doc pm an cdv ct u v
  have DJ := two F0 (.of (ok_jar F0 B)) (gl "_law_jar" (by decide +kernel)) fun _ _ _ _ _ _ _ _ => rfl
  have DD := two F1 (.of (ok_draw F1 B)) (gl "_law_draw" (by decide +kernel)) fun _ _ _ _ _ _ _ _ => rfl
  have DP := two F2 (ok_pick F2 B DD) (gl "_law_pick" (by decide +kernel)) fun _ _ _ _ _ _ _ _ => rfl
  have DO := one F3 (ok_odd F3 DP) (gl "_law_odd" (by decide +kernel)) fun _ _ _ _ _ _ _ => rfl
  have D1 := one F4 (.of (ok_values F4 FX)) (gl "_law_values" (by decide +kernel)) fun _ _ _ _ _ _ _ => rfl
  have D3 := one F5 (.of (ok_named_values F5 FX)) (gl "_law_named_values" (by decide +kernel)) fun _ _ _ _ _ _ _ => rfl
  have D2 := one F6 (.of (ok_others F6 FX)) (gl "_law_others" (by decide +kernel)) fun _ _ _ _ _ _ _ => rfl
  have D4 := one F7 (.of (ok_named_others F7 FX)) (gl "_law_named_others" (by decide +kernel)) fun _ _ _ _ _ _ _ => rfl
  have DS := one F8 (.of (ok_sort F8 T B)) (gl "_law_sort" (by decide +kernel)) fun _ _ _ _ _ _ _ => rfl
  have DB := one F9 (.of (ok_bases F9 T B)) (gl "_law_bases" (by decide +kernel)) fun _ _ _ _ _ _ _ => rfl
  have DI := two F10 (ok_isof F10 B DS DB) (gl "_law_is_of" (by decide +kernel)) fun _ _ _ _ _ _ _ _ => rfl
  have DK := two F11 (.of (ok_kept F11 T (nof_of c))) (gl "_law_kept" (by decide +kernel)) fun _ _ _ _ _ _ _ _ => rfl
  have DR := one F12 (ok_right F12 B T (nw_of c) (Option.isSome_iff_exists.mp c.sm) (num_of X G c) DO D1 D2 D3 D4 DI DK DS DB) (gl "_law_right" (by decide +kernel)) fun _ _ _ _ _ _ _ => rfl
  exact ok_law F13 B DJ DR
end
end K01
namespace Tc
open PySem PySem.Spec PyProof.Rows L2
/-- the end of a law's row, from a word about the head -/
theorem walk_endG {l : PySem.W.OpenLaw} {n k : Nat} {q : Program} {loose : List Str} {XP : (Str → Option Value) → Heap → Prop} {YP : World → Heap → Prop} {d : DefRec} {CX : CXT} {x : Str}
    (hm : l.most = some n) (hs : n ≤ sizeLine) (h0 : d.params.defaults = []) (hr : Room k callerA)
    (F : ∀ (w : World) (mg : Str → Option Value) (fa : Addr) (h : Heap), YP w h → h.Ns mainGlobals mg → mg d.name = some (.ref fa) →
      ∃ (K : PySem.W.Frag) (fd : FuncData) (sp : Sp), K.In h ∧ (∀ (s : Shared) (u : Value), BindsTo s fd ⟨[u], []⟩ [(x, u)]) ∧
        (∀ base : Heap, K.In base → base.Ns mainGlobals mg → FnG l.prog w K mg base CX k fa fd [x] sp) ∧
        ∀ (H : Hp) (a : Addr) (ns : List Int), ns.length ≤ n → SqL K H a (ns.map V.int) → sp [.ref a] H (fun v _ => v = .bl true) fun _ _ _ => False)
    (hX : ∀ (H : Hp) (s : Shared) (e : Value) (s' : Shared), ¬ CX [] H s (fun _ _ _ => False) e s') :
    PySem.W.WalkO q loose XP YP l.row.toRowW d [] (fun f vs => PySem.call f vs) := by
  refine Att.attach_call hm h0 ?_
  intro w s₀ s₁ mg mb fa o pm cd doc a vs ns G Y ho hd hcd hmg hobj hints hlen hg
  obtain ⟨K, fd, sp, KX, hb, hF, hsp⟩ := F w mg fa _ Y G.T.g hmg
  exact law_callG KX G.T.g G.T.b G.T.builtins G.T.nolimit hg hobj hints (Nat.le_trans hlen hs) hr hF hb
    (fun H _ hS => hsp H a ns hlen hS) (fun H e s' => hX H s₁ e s')
end Tc
open PySem PySem.W PySem.Calls PyProof.Rows
theorem PySem.Challenge.cw_toldcounts_k01_limits_and_errors_holds : PySem.Challenge.rw_toldcounts_k01_limits_and_errors.Holds := by
  w_on; o_law
  refine HandSHeadRun.head_any (r := OpenLaw.row PySem.Challenge.rw_toldcounts_k01_limits_and_errors) (q := view K01.R.prog [79]) (H := K01.hk) (ob := K01.ob)
    (M := 14000) (loose := K01.loose) (d := HandSHeadRun.topDef K01.R.prog 79) (kwd := []) K01.ob_eq
    (by kernel_rfl) (fun s => by kernel_rfl) K01.run (by kernel_rfl) (by kernel_rfl) (by kernel_rfl) (by rfl) (by first | assumption | decide +kernel) (by decide +kernel)
    ⟨rfl, rfl, rfl, rfl, rfl, by decide +kernel⟩ ?hw ?hc
  case hw => w_witness2
  case hc =>
    refine Tc.walk_endG (l := PySem.Challenge.rw_toldcounts_k01_limits_and_errors) (n := 63) (k := 6) (x := "_law_script") (CX := L2.CX0)
      rfl (by decide) (by kernel_rfl) ⟨rfl, by decide, by decide⟩ ?F (fun _ _ _ _ z => z)
    intro w mg fa h Y G hmg0
    obtain ⟨K, KX, c⟩ := Y
    have nm : (HandSHeadRun.topDef K01.R.prog 79).name = ("law" : PySem.Str) := by kernel_rfl
    rw [nm] at hmg0
    obtain ⟨fd, hb, hF⟩ := K01.facts (P := (PySem.Challenge.rw_toldcounts_k01_limits_and_errors).prog) (w := w) KX G hmg0 c
    exact ⟨K, fd, K01.spLaw K, KX, hb, hF, fun H a ns hl hS => ⟨a, ns, rfl, hS, hl, fun _ => rfl⟩⟩
