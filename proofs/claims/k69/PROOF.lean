import PyProof.Rows.All
import Wide.All
import OpenK.AllK
import Wide.FinOn
import HandS.ForMost
import HandS.ForExc
import HandS.ExcInit
import HandS.ExcField
import HandS.IsInst
import HandS.StrMore
import HandS.FStr
import HandS.Conv
import KE.KExcInit
import HandS.ExcIs
import KE.KExcIs
import HandS.ExcValue
import PyProof.ExcBaseAll.ValueError
import PyProof.ExcBaseAll.LookupError
import PyProof.ExcBaseAll.ArithmeticError
import KE.KStateDown
import HandS.Defaults
import HandS.Head0
import HandS.Head1
import HandS.Head2
import HandS.HeadHook1
import KE.KTryMore
import HandS.Exc
import HandS.Lambda
import HandS.WordsExc
import HandS.SetFor
import HandS.Evl
import PyProof.EqKinds
import HandS.Walk
import PyProof.Rows.Chain
import HandS.HeadHook4
import HandS.EndTab
import HandS.Property
import HandS.ClsMeth
import HandS.MakeKwOnly
import HandS.HeadHook2
import HandS.Head3
import HandS.Codes
import HandS.Text
import KE.IntTextText
import PyProof.Rows.RegFStrParts
import PyProof.ListStr
import HandS.TryMany
import HandS.Comp
import HandS.Iter
import KE.KxIndex
import HandS.WideBits
import HandS.NoneIn
import HandS.TupAny
import HandS.TupMul
import HandS.Zip
import KE.DataMinMax
import HandS.List
import HandS.SortInts
import HandS.RaiseMore
import HandS.Dict
import HandS.HotCalls
import HandS.Star
import HandS.Style
import PyProof.EnumMake
import PyProof.Draws
import KE.GoesNew
import HandS.Rev
import KE.KxText
import HandS.Deep
import HandS.OwnEq
import PyProof.InstEq
import HandS.Gcd
import HandS.Strs
import PyProof.MeetsSeq2
import HandS.RepeatKit
import HandS.TupLe
import HandS.HeadEnd
import PySem.Challenge.RW_toldcounts_k69_whole_numbers_of_people
set_option Elab.async false
set_option linter.all false
set_option maxRecDepth 100000
set_option maxHeartbeats 0
/-! Defs that may show things: no repr runs around them (the guards are known to be none). -/
namespace Tc
open PySem PySem.Spec PyProof.Rows L2
/-- as a def's promise, for callers that no repr runs around -/
structure FnG (P : Program) (w : World) (K : PySem.W.Frag) (mg : Str → Option Value) (base : Heap)
    (CX : CXT) (k : Nat) (f : Addr) (fd : FuncData) (ps : List Str) (sp : Sp) : Prop where
  len : ∀ vs H Q E, sp vs H Q E → vs.length = ps.length
  run : ∀ (A : Around) (outer : List Env) (s : Shared) (H : Hp) (args : Args) (us : List Value)
    (vs : List V) (Q : VK) (E : XK), Room k A → A.guards = some [] →
    Env0 P w K mg base A outer s H → BindsTo s fd args (ps.zip us) → Vals vs us → sp vs H Q E →
    codeAny (model P w) A (.call (.ref f) args) (CR CX outer P w H s Q E) s
theorem FnG.of {P : Program} {w : World} {K : PySem.W.Frag} {mg : Str → Option Value} {base : Heap}
    {CX : CXT} {k : Nat} {f : Addr} {fd : FuncData} {ps : List Str} {sp : Sp}
    (F : FnOk P w K mg base CX k f fd ps sp) : FnG P w K mg base CX k f fd ps sp :=
  ⟨F.len, fun A o s H args us vs Q E hr _ => F.run A o s H args us vs Q E hr⟩
theorem FnG.mono {P : Program} {w : World} {K : PySem.W.Frag} {mg : Str → Option Value} {base : Heap}
    {CX : CXT} {j k : Nat} {f : Addr} {fd : FuncData} {ps : List Str} {sp : Sp}
    (F : FnG P w K mg base CX j f fd ps sp) (h : j ≤ k) : FnG P w K mg base CX k f fd ps sp :=
  ⟨F.len, fun A o s H args us vs Q E hr => F.run A o s H args us vs Q E (hr.mono h)⟩
section
variable {P : Program} {w : World} {K : PySem.W.Frag} {mg : Str → Option Value} {base : Heap}
theorem Fun.okG {CX : CXT} {x qual : Str} {st : Stmt} {f : Addr} {fd : FuncData} {N ps : List Str}
    {k : Nat} {sp : Sp} (F : Fun K x qual st f fd) (S : FnScope N ps (defScope st))
    (len : ∀ vs H Q E, sp vs H Q E → vs.length = ps.length)
    (hbody : ∀ (cdv : Value) (A : Around) (outer : List Env) (s : Shared) (H : Hp) (vs : List V)
      (Q : VK) (E : XK), Room k (A.deeper (envOfC qual (defScope st) s.heap.objs.size f cdv)) →
      (A.deeper (envOfC qual (defScope st) s.heap.objs.size f cdv)).guards = some [] →
      sp vs H Q E →
      ∃ t, PSs (cxOf CX P w K mg base N qual (defScope st) f cdv A outer s H E) (defBody st) t ∧
        t { nx := fun _ H' => Q .non H', rt := Q } (start N vs) H) :
    FnG P w K mg base CX (k + 1) f fd ps sp := by
  obtain ⟨oc, od, kV, doc, pm, an, cdv, ct, osl, rfl, lk, hcd⟩ := F.ex
  refine ⟨len, ?_⟩
  intro A outer s H args us vs Q E hr hgd e0 hb r hsp
  have vl := len _ _ _ _ hsp
  have kin : K.In s.heap := e0.mod.kin.keeps (fun b o e => (e0.bs b o e).1)
  have nlim : s.heap.NoLimit := e0.mod.nolimit.keeps (fun b o e => (e0.bs b o e).1)
  have kinds : ∀ y ∈ ps.zip us, (defScope st).names.lookup y.1 = some .local ∨
      ((defScope st).names.lookup y.1 = some .cell ∧
        ((cellsFrom (s.heap.objs.size + 1) (defScope st).names []).lookup y.1).isSome = true) := by
    rintro ⟨n, v⟩ hy
    cases S.par n (List.of_mem_zip hy).1 with
    | inl q => exact .inl q
    | inr q => exact .inr ⟨q, PySem.W.cellsFrom_some _ _ _ (.inl q)⟩
  refine codeAny_call_function hr.depth (kin _ _ lk) rfl S.co S.gen rfl
    (PySem.W.codeRec_of kin hcd) (hb _ _ _ _ ?_)
  refine wpAny_newFunctionEnv_cells S.kind kinds (fun env he s1 x => ?_)
  subst he
  refine ⟨nlim.keeps x.toInCall.keep, codeAny_func ?_⟩
  obtain ⟨t, ht, hq⟩ := hbody cdv A outer s H vs Q E (hr.deeper _) hgd hsp
  have I := inv_start (CX := CX) (P := P) (w := w) (mg := mg) (base := base) (E := E) S hr.hd e0 vl r x
  refine wpAny_mono (ht.run [] s1 (start N vs) H _ I hq) (fun fl s' hs => ?_) (fun e s' hs => hs)
  have close : ∀ {σ' : L2.St} {H' : Hp} {v : V} {u : Value},
      Inv (cxOf CX P w K mg base N qual (defScope st) f cdv A outer s H E) [] σ' H' s' →
      RelV v u → Q v H' → CE outer P w H s Q u s' := by
    intro σ' H' v u J rv q
    exact ⟨v, H', J.os, J.bare, J.base, J.hok, rv, q⟩
  cases fl with
  | ret u => obtain ⟨v, σ', H', J, rv, q⟩ := hs; exact close J rv q
  | next => obtain ⟨σ', H', J, q⟩ := hs; exact close (v := V.non) (u := Value.none) J rfl q
  | brk => obtain ⟨_, _, _, q⟩ := hs; exact False.elim q
  | cont => obtain ⟨_, _, _, q⟩ := hs; exact False.elim q
end
section
variable {X : Cx} {CX : CXT} {k : Nat} {f : Addr} {fd : FuncData} {ps : List Str} {sp : Sp}
  {dvs : List V} {ds : List Value} {E : XK} {x : Str} {p pos : Pos} {e : Expr} {es : List Expr} {t : TA}
theorem run_fnG {pins : List (Addr × Obj)} {σ : L2.St} {H : Hp} {s : Shared} {Q : VK}
    {us : List Value} {vs : List V} (F : FnG X.prog X.w X.K X.mg X.base CX k f fd ps sp)
    (hr : Room k X.A) (hgd : X.A.guards = some []) (hb : Binds X.K fd ps ds) (hd : Vals dvs ds)
    (hx : Passes CX X E) (I : Inv X pins σ H s) (r : Vals vs us) (h : sp (vs ++ dvs) H Q E) :
    wpAny (model X.prog X.w) X.A (call (.ref f) us) (EP X pins σ Q) X.xe s := by
  have both : Vals (vs ++ dvs) (us ++ ds) := r.append hd
  have hl : (us ++ ds).length = ps.length := both.length ▸ F.len _ _ _ _ h
  have main := F.run X.A X.stack s H ⟨us, []⟩ (us ++ ds) (vs ++ dvs) Q E hr hgd I.env0
    (hb s us I.kIn hl) both h
  refine wpAny_call (codeAny_mono main ?_)
  intro res s' hq
  cases res with
  | error er => exact hx pins σ H s er s' I hq
  | ok fl =>
    cases fl with
    | ret u => exact I.after hq
    | next | brk | cont => exact False.elim hq
theorem pe_callG (F : FnG X.prog X.w X.K X.mg X.base CX k f fd ps sp) (hr : Room k X.A)
    (hgd : X.A.guards = some []) (hg : Gl X x) (hm : X.mg x = some (.ref f))
    (hk : PySem.W.keepIn X.K (.ref f) = true) (hb : Binds X.K fd ps ds) (hd : Vals dvs ds)
    (hx : Passes CX X E) (ha : PA X (e :: es) t)
    (hdb : (x == ("__debug__" : Str)) = false := by decide)
    (he : starEach (e :: es) X.env = (false, eval e X.env) :: starEach es X.env := by rfl)
    (hpl : (backTo pos (starEach es X.env)).any (·.1) = false := by rfl) :
    PE X (.Call (.Name x p) (e :: es) [] pos) (tCall sp dvs E t) := by
  constructor
  intro pins s σ H Q I h
  have args := ha.run pos pins s σ H _ I h
  refine wpAny_Call_Name_kw (ld_glob I hg hm ?_ hdb)
  refine PySem.W.callWith_K (h₀ := X.base) I.ok.mod.kin hk (thn args ?_) he hpl
  rintro us s1 ⟨vs, H1, I1, r, q⟩
  exact ⟨I1.kIn, run_fnG F hr hgd hb hd hx I1 r q⟩
end
end Tc
/-! Data at any depth, dicts too; what repr makes of them. -/
namespace Tc
open PySem PySem.Spec PyProof.Rows L2
def kD : Key → PyData
  | .inl i => .int i
  | .inr x => .str x
/-- a key that no dict of data has: an instance stands there as a dict that begins with it -/
def markN : Nat := 2 ^ 2000
abbrev markD : PyData := .tuple [.int (.ofNat markN)]
/-- an instance of the class at C, as data -/
abbrev inst (C : Addr) (fs : List (PyData × PyData)) : PyData := .dict ((markD, .int (.ofNat C)) :: fs)
/-- no instance (at the top) -/
def notI : PyData → Bool
  | .dict ((.tuple _, _) :: _) => false
  | _ => true
mutual
/-- the value is this data, all of it tracked -/
inductive Dv (H : Hp) : V → PyData → Prop
  | non : Dv H .non .none
  | bl (b : Bool) : Dv H (.bl b) (.bool b)
  | int (i : Int) : Dv H (.int i) (.int i)
  | str (x : Str) : Dv H (.str x) (.str x)
  | lst {a : Addr} {xs : List V} {ds : List PyData} : Rd H a (.lst xs) → DvAll H xs ds → Dv H (.ref a) (.list ds)
  | tup {a : Addr} {xs : List V} {ds : List PyData} : Rd H a (.tup xs) → DvAll H xs ds → Dv H (.ref a) (.tuple ds)
  | dct {a : Addr} {kvs : List (Key × V)} {ds : List (PyData × PyData)} : Rd H a (.dK kvs) → DvKv H kvs ds → Dv H (.ref a) (.dict ds)
  | ins {a C dx : Addr} {gs : List (Str × V)} {ds : List (PyData × PyData)} : H a = some (.ins C dx gs) → DvNm H gs ds → Dv H (.ref a) (.dict ((.tuple [.int (.ofNat markN)], .int (.ofNat C)) :: ds))
inductive DvNm (H : Hp) : List (Str × V) → List (PyData × PyData) → Prop
  | nil : DvNm H [] []
  | cons {f : Str} {v : V} {gs : List (Str × V)} {d : PyData} {ds : List (PyData × PyData)} : Dv H v d → DvNm H gs ds → DvNm H ((f, v) :: gs) ((.str f, d) :: ds)
inductive DvAll (H : Hp) : List V → List PyData → Prop
  | nil : DvAll H [] []
  | cons {v : V} {vs : List V} {d : PyData} {ds : List PyData} : Dv H v d → DvAll H vs ds → DvAll H (v :: vs) (d :: ds)
inductive DvKv (H : Hp) : List (Key × V) → List (PyData × PyData) → Prop
  | nil : DvKv H [] []
  | cons {k : Key} {v : V} {kvs : List (Key × V)} {d : PyData} {ds : List (PyData × PyData)} : Dv H v d → DvKv H kvs ds → DvKv H ((k, v) :: kvs) ((kD k, d) :: ds)
end
theorem rd_ne {H : Hp} {a : Addr} {u : HO} (h : Rd H a u) (hs : H sysModules = none) : a ≠ sysModules := by
  rintro rfl
  rcases h with h | ⟨o, h⟩ <;> (rw [hs] at h; cases h)
/-- data without instances, at any depth -/
structure Clean (C : PyData → Prop) : Prop where
  lst : ∀ xs, C (.list xs) → ∀ x ∈ xs, C x
  tup : ∀ xs, C (.tuple xs) → ∀ x ∈ xs, C x
  dct : ∀ kvs, C (.dict kvs) → ∀ p ∈ kvs, C p.2
  no : ∀ c ds, ¬ C (.dict ((.tuple [.int (.ofNat markN)], c) :: ds))
theorem all_show {xs : List PyData} (h : PyData.showableAll xs = true) : ∀ x ∈ xs, x.showable = true := by
  induction xs with
  | nil => intro x hx; cases hx
  | cons y ys ih =>
    intro x hx
    obtain ⟨h1, h2⟩ : y.showable = true ∧ PyData.showableAll ys = true := by simpa [PyData.showableAll] using h
    cases hx with
    | head => exact h1
    | tail _ q => exact ih h2 x q
theorem kv_show {kvs : List (PyData × PyData)} (h : PyData.showableKv kvs = true) : ∀ p ∈ kvs, p.1.showable = true ∧ p.2.showable = true := by
  induction kvs with
  | nil => intro x hx; cases hx
  | cons y ys ih =>
    intro x hx
    obtain ⟨⟨h1, h2⟩, h3⟩ : (y.1.showable = true ∧ y.2.showable = true) ∧ PyData.showableKv ys = true := by simpa [PyData.showableKv] using h
    cases hx with
    | head => exact ⟨h1, h2⟩
    | tail _ q => exact ih h3 x q
theorem mark_show : PyData.showable (.tuple [.int (.ofNat markN)]) = false := by decide +kernel
theorem clean_show : Clean fun d => d.showable = true := ⟨fun xs h => all_show h, fun xs h => all_show h, fun kvs h p hp => (kv_show h p hp).2, fun c ds h => by
  have z := (kv_show h _ (.head _)).1
  rw [mark_show] at z
  cases z⟩
theorem all_noDict {xs : List PyData} (h : PyData.hasDictAll xs = false) : ∀ x ∈ xs, x.hasDict = false := by
  induction xs with
  | nil => intro x hx; cases hx
  | cons y ys ih =>
    intro x hx
    obtain ⟨h1, h2⟩ : y.hasDict = false ∧ PyData.hasDictAll ys = false := by simpa [PyData.hasDictAll] using h
    cases hx with
    | head => exact h1
    | tail _ q => exact ih h2 x q
theorem clean_noDict : Clean fun d => d.hasDict = false := ⟨fun xs h => all_noDict h, fun xs h => all_noDict h, fun kvs h => absurd (show true = false from h) (by decide), fun c ds h => absurd (show true = false from h) (by decide)⟩
section
variable {X : Cx} {pins : List (Addr × Obj)} {σ : L2.St} {H : Hp} {s : Shared} {C : PyData → Prop}
mutual
theorem Dv.reads (cl : Clean C) (I : Inv X pins σ H s) (hs : H sysModules = none) : ∀ {v : V} {d : PyData}, Dv H v d → C d → ∀ u, RelV v u →
    ∃ as, Reads s.heap u d as ∧ sysModules ∉ as
  | _, _, .non, _, _, r => by cases r; exact ⟨_, Reads.none, by simp⟩
  | _, _, .bl b, _, _, r => by cases r; exact ⟨_, Reads.bool b, by simp⟩
  | _, _, .int i, _, _, r => by obtain ⟨t, rfl⟩ := r; exact ⟨_, Reads.int i t, by simp⟩
  | _, _, .str x, _, _, r => by obtain ⟨t, rfl⟩ := r; exact ⟨_, Reads.str x t, by simp⟩
  | _, _, .lst h ha, hc0, _, r => by
    cases r
    obtain ⟨its, rv, ⟨o, n, ho, hc, _, hd⟩, _⟩ := I.list (.inl h)
    obtain ⟨as, hr, hn⟩ := DvAll.reads cl I hs ha (cl.lst _ hc0) _ rv
    exact ⟨_, Reads.list ho hc hd hr, by simpa using ⟨(rd_ne h hs).symm, hn⟩⟩
  | _, _, .tup h ha, hc0, _, r => by
    cases r
    obtain ⟨its, rv, ⟨o, ho, hc, n, hd⟩, _⟩ := I.tuple (.inl h)
    obtain ⟨as, hr, hn⟩ := DvAll.reads cl I hs ha (cl.tup _ hc0) _ rv
    exact ⟨_, Reads.tuple ho hc hd hr, hn⟩
  | _, _, .ins (C := c) (ds := ds) _ _, hc0, _, _ => absurd hc0 (cl.no (.int (.ofNat c)) ds)
  | _, _, .dct (a := a) h ha, hc0, _, r => by
    cases r
    obtain ⟨_, _, vs, rk, o, es, ep, ho, hx, hd, _, hp, _⟩ := h.ok I.hok
    obtain ⟨as, bs, h1, h2, n1, n2⟩ := DvKv.reads cl I hs ha (cl.dct _ hc0) _ rk _ hp
    exact ⟨_, Reads.dict ho hx.1 hd h1 h2, by
      simp only [List.cons_append, List.mem_cons, List.mem_append, not_or]
      exact ⟨(rd_ne h hs).symm, n1, n2⟩⟩
theorem DvAll.reads (cl : Clean C) (I : Inv X pins σ H s) (hs : H sysModules = none) : ∀ {vs : List V} {ds : List PyData}, DvAll H vs ds → (∀ x ∈ ds, C x) → ∀ us, Vals vs us →
    ∃ as, ReadsAll s.heap us ds as ∧ sysModules ∉ as
  | _, _, .nil, _, _, r => by cases r; exact ⟨_, ReadsAll.nil, by simp⟩
  | _, _, .cons h1 h2, hc0, _, r => by
    cases r with
    | cons r1 r2 =>
      obtain ⟨as, q1, n1⟩ := Dv.reads cl I hs h1 (hc0 _ (.head _)) _ r1
      obtain ⟨bs, q2, n2⟩ := DvAll.reads cl I hs h2 (fun x hx => hc0 x (.tail _ hx)) _ r2
      exact ⟨_, ReadsAll.cons q1 q2, by simpa using ⟨n1, n2⟩⟩
theorem DvKv.reads (cl : Clean C) (I : Inv X pins σ H s) (hs : H sysModules = none) : ∀ {kvs : List (Key × V)} {ds : List (PyData × PyData)}, DvKv H kvs ds → (∀ p ∈ ds, C p.2) → ∀ vs, KV kvs vs → ∀ es, Pairs (mixKind X.prog X.w) es vs →
    ∃ as bs, ReadsAll s.heap (es.map (·.key)) (ds.map (·.1)) as ∧ ReadsAll s.heap (es.map (·.val)) (ds.map (·.2)) bs ∧ sysModules ∉ as ∧ sysModules ∉ bs
  | _, _, .nil, _, _, r, _, p => by
    cases r; cases p
    exact ⟨_, _, ReadsAll.nil, ReadsAll.nil, by simp, by simp⟩
  | _, _, .cons (k := k) h1 h2, hc0, _, r, _, p => by
    cases r with
    | cons r1 r2 =>
      cases p with
      | @cons e0 kv0 es0 kvs0 p1 p2 p3 =>
        obtain ⟨rk, rv⟩ := r1
        obtain ⟨as, q1, n1⟩ := Dv.reads cl I hs h1 (hc0 _ (.head _)) _ rv
        obtain ⟨as', bs', q2, q3, n2, n3⟩ := DvKv.reads cl I hs h2 (fun x hx => hc0 x (.tail _ hx)) _ r2 _ p3
        have hk : ∃ cs, Reads s.heap e0.key (kD k) cs ∧ sysModules ∉ cs := by
          have p1' := p1
          rw [← rk, mixKind_is] at p1'
          rcases keyIs_shape p1' with ⟨i, t, e1, e2⟩ | ⟨x, t, e1, e2⟩
          · dsimp only at e1
            subst e1
            exact ⟨[], by rw [e2]; exact Reads.int i t, by simp⟩
          · dsimp only at e1
            subst e1
            exact ⟨[], by rw [e2]; exact Reads.str x t, by simp⟩
        obtain ⟨cs, hk1, hk2⟩ := hk
        exact ⟨_, _, ReadsAll.cons hk1 q2, ReadsAll.cons (show Reads s.heap e0.val _ as by rw [p2]; exact q1) q3, by simpa using ⟨hk2, n2⟩, by simpa using ⟨n1, n3⟩⟩
end
end
/-- repr(x) -/
def rRepr : List V → Hp → VK → Prop := fun xs H Q => ∃ v d, xs = [v] ∧ Dv H v d ∧ d.showable = true ∧ d.depth ≤ 100 ∧
  d.shown.length ≤ sizeLine ∧ Q (.str d.shown) H
theorem call_repr {X : Cx} {k : Nat} (hr : Room k X.A) (hgd : X.A.guards = some []) (hsm : ∃ o, X.K.lookup sysModules = some o) :
    CallR X (.builtin "repr") rRepr := by
  intro pins s σ H xs us Q I r h
  obtain ⟨v, d, rfl, hv, hs, hd, hl, q⟩ := h
  obtain ⟨u, rfl, ru⟩ := vals1 r
  have hun := hr.un
  have sm : H sysModules = none := by
    obtain ⟨o, ho⟩ := hsm
    exact I.bs _ _ (I.ok.mod.kin _ _ ho) |>.2
  obtain ⟨as, rd, na⟩ := Dv.reads clean_show I sm hv hs u ru
  cases hv with
  | non =>
    cases ru
    exact PySem.P.repr_of_none ⟨.str _, H, I.tok _, ⟨_, rfl⟩, q⟩
  | bl b =>
    cases ru
    exact PySem.P.repr_of_bool ⟨.str _, H, I.tok _, ⟨_, rfl⟩, q⟩
  | int i =>
    obtain ⟨t, rfl⟩ := ru
    exact PySem.P.repr_of_int (by simpa [PyData.showable] using hs) ⟨.str _, H, I.tok _, ⟨_, rfl⟩, q⟩
  | str x =>
    obtain ⟨t, rfl⟩ := ru
    exact PySem.P.repr_of_str ⟨.str _, H, I.tok _, ⟨_, rfl⟩, q⟩ (by simpa [PyData.shown] using hl)
  | lst _ _ | tup _ _ | dct _ _ | ins _ _ =>
    cases ru
    refine repr_of_reads' rd hs (fun _ => na) hgd (by omega) (fun _ _ e => e) (fun h' u tk hk => ?_) hl
    exact ⟨.str _, H, I.kept (t' := tk) hk, ⟨_, rfl⟩, q⟩
end Tc
/-! The law's call, where the guards are known to be none. -/
namespace Tc
open PySem PySem.Spec PyProof.Rows L2
section
variable {P : Program} {w : World} {K : PySem.W.Frag} {mg mb : Str → Option Value} {CX : CXT}
  {k : Nat} {fa a : Addr} {fd : FuncData} {x : Str} {sp : Sp} {s₁ : Shared} {vs : List Value} {ns : List Int}
/-- what must hold behind the law's call -/
abbrev Behind (s₁ : Shared) : Result → Shared → Prop := fun r s' =>
  r = .ok (.ret (.bool true)) ∧ OldK s₁.heap s'.heap ∧ s'.os = s₁.os ∧ AllBare s'.gens
end
end Tc
/-! An own exception class is called, with keywords too. -/
namespace Tc
open PySem PySem.Spec PySem.W
open Builtin Builtin.ObjectAttr
end Tc
/-! An own exception class with one field is called: what stands then. -/
namespace Tc
open PySem PySem.Spec PySem.W
open Builtin Builtin.ObjectAttr
end Tc
namespace Tc
open PySem PySem.Spec PySem.W PyProof.Rows
open Builtin Builtin.ObjectAttr
end Tc
/-! Exceptions as values, tracked: made, asked for their class, their field read. -/
namespace Tc
open PySem PySem.Spec PyProof.Rows L2
end Tc
namespace Tc
open PySem PySem.Spec PyProof.Rows L2
end Tc
/-! The head's facts by one Bool and the functions by their texts; what makes a new exception. -/
namespace Tc
open PySem PySem.Spec PyProof.Rows L2
/-- what objects name: the values of dicts, the names of classes, the code of functions -/
def valsOf (o : Obj) : List Addr := match o.data with
  | .dict es _ => es.toList.flatMap fun e => He.refV e.val
  | _ => []
def nsOf (o : Obj) : List Addr := match o.data with
  | .cls cd => [cd.ns]
  | _ => []
def codeOf (o : Obj) : List Addr := match o.data with
  | .func fd => He.refV fd.code
  | _ => []
def reach (g : Addr → Option Obj) (f : Obj → List Addr) (as : List Addr) : List Addr := as.flatMap fun a => match g a with
  | some o => f o
  | none => []
def obsM (F : PySem.W.Frag → Bool) (fn : List He.FnD) (K : PySem.W.Frag) : He.Al :=
  (F K && fn.all fun d => PySem.W.keepIn K (.ref (He.fAd K d.at_)) && (He.Fa.code d.at_ d.qual).ok K, fn.map fun d => He.fnObs K d.at_)
def SaysM (F : PySem.W.Frag → Bool) (fn : List He.FnD) (K : PySem.W.Frag) : Prop := obsM F fn K = He.valE fn
section
variable {F : PySem.W.Frag → Bool} {fn : List He.FnD} {K : PySem.W.Frag}
theorem SaysM.fact (c : SaysM F fn K) : F K = true :=
  (He.ba (congrArg (fun z : He.Al => z.1) c)).1
/-- the def d of the text stands, and is called so -/
theorem SaysM.fun_ (c : SaysM F fn K) (i : Nat) {st : Stmt} {p : Str × Option Str} {x q : Str}
    (h : fn[i]? = some ⟨p, x, q, defArgs st, defBody st, defScope st⟩ := by rfl) :
    ∃ fd, Fun K x q st (He.fAd K p) fd := by
  have c1 := (He.ba (show (F K && fn.all fun d => PySem.W.keepIn K (.ref (He.fAd K d.at_)) && (He.Fa.code d.at_ d.qual).ok K) = true from
    congrArg (fun z : He.Al => z.1) c)).2
  have c2 := List.all_eq_true.mp c1 _ (List.mem_of_getElem? h)
  obtain ⟨kp, cd⟩ := He.ba c2
  have e : fn.map (fun d => He.fnObs K d.at_) = fn.map He.FnD.val := congrArg (fun z : He.Al => z.2) c
  have e2 : (fn.map fun d => He.fnObs K d.at_)[i]? = (fn.map He.FnD.val)[i]? := by rw [e]
  rw [List.getElem?_map, List.getElem?_map, h] at e2
  obtain ⟨oc, od, osl, kV, doc, pm, an, cdv, ct, lk, hc⟩ := He.fn_ok (Option.some.inj e2) cd
  exact ⟨_, fun_mk lk hc kp⟩
end
/-- a statement, then the rest, a word between them -/
def tMid (t u : TS) : TS := fun D σ H => ∃ M : L2.St → Hp → Prop, t { D with nx := M } σ H ∧ ∀ σ' H', M σ' H' → u D σ' H'
theorem pss_mid {X : Cx} {st : Stmt} {rest : List Stmt} {t u : TS} (h1 : PS X st t) (h2 : PSs X rest u) : PSs X (st :: rest) (tMid t u) := by
  constructor
  intro pins s σ H D I h
  obtain ⟨M, hm, hu⟩ := h
  refine wpAny_execs_cons (thn (h1.run pins s σ H { D with nx := M } I hm) ?_)
  intro f s1 q
  cases f with
  | next =>
    obtain ⟨σ', H', I', q⟩ := q
    exact h2.run pins s1 σ' H' D I' (hu σ' H' q)
  | ret v | brk | cont => exact q
/-- a def by its name: what it keeps, how it is called -/
structure Call (P : Program) (w : World) (K : PySem.W.Frag) (mg : Str → Option Value) (base : Heap) (CX : CXT)
    (k : Nat) (x : Str) (ps : List Str) (sp : Sp) : Prop where
  ex : ∃ f fd, FnG P w K mg base CX k f fd ps sp ∧ mg x = some (.ref f) ∧ PySem.W.keepIn K (.ref f) = true ∧ Binds K fd ps []
section
variable {X : Cx} {CX : CXT} {k : Nat} {ps : List Str} {sp : Sp} {E : XK} {x : Str} {p pos : Pos} {e : Expr} {es : List Expr} {t : TA}
theorem pe_do (F : Call X.prog X.w X.K X.mg X.base CX k x ps sp) (hr : Room k X.A)
    (hgd : X.A.guards = some []) (hg : Gl X x) (hx : Passes CX X E) (ha : PA X (e :: es) t)
    (hdb : (x == ("__debug__" : Str)) = false := by decide)
    (he : starEach (e :: es) X.env = (false, eval e X.env) :: starEach es X.env := by rfl)
    (hpl : (backTo pos (starEach es X.env)).any (·.1) = false := by rfl) :
    PE X (.Call (.Name x p) (e :: es) [] pos) (tCall sp [] E t) := by
  obtain ⟨f, fd, G, hm, hk, hb⟩ := F.ex
  exact pe_callG G hr hgd hg hm hk hb .nil hx ha hdb he hpl
end
/-! ### the facts of an exception class, told by a Bool -/
/-- the three bases: the built-in class under which a class stands -/
inductive Kin where
  | v | l | a
def Kin.B : Kin → String
  | .v => "ValueError"
  | .l => "LookupError"
  | .a => "ArithmeticError"
def Kin.new : Kin → String
  | .v => "ValueError.__new__"
  | .l => "LookupError.__new__"
  | .a => "ArithmeticError.__new__"
def Kin.ini : Kin → String
  | .v => "ValueError.__init__"
  | .l => "LookupError.__init__"
  | .a => "ArithmeticError.__init__"
def Kin.mro (k : Kin) : List Value := [.type k.B, .type "Exception", .type "BaseException", .type "object"]
theorem Kin.base : ∀ k : Kin, ExcBaseFacts k.B k.new k.ini k.mro
  | .v => PySem.F.excBase_ValueError
  | .l => PySem.F.excBase_LookupError
  | .a => PySem.F.excBase_ArithmeticError
end Tc
/-! except (A, B, C) as n. -/
namespace Tc
open PySem PySem.Spec PyProof.Rows L2
end Tc
/-! raise X(e), X with its own __init__; what a suite asks of the exception that it holds. -/
namespace Tc
open PySem PySem.Spec PyProof.Rows L2
end Tc
/-! xs.count(b), xs a list of bools. -/
namespace Tc
open PySem PySem.Spec PyProof.Rows L2
end Tc
namespace Tc
open PySem PySem.Spec PyProof.Rows L2
mutual
theorem Dv.mono {H H' : Hp} (s : Same H H') : ∀ {v : V} {d : PyData}, Dv H v d → Dv H' v d
  | _, _, .non => .non
  | _, _, .bl b => .bl b
  | _, _, .int i => .int i
  | _, _, .str x => .str x
  | _, _, .lst h a => .lst (h.elim (fun z => .inl (s _ _ z)) fun ⟨o, z⟩ => .inr ⟨o, s _ _ z⟩) (DvAll.mono s a)
  | _, _, .tup h a => .tup (h.elim (fun z => .inl (s _ _ z)) fun ⟨o, z⟩ => .inr ⟨o, s _ _ z⟩) (DvAll.mono s a)
  | _, _, .dct h a => .dct (h.elim (fun z => .inl (s _ _ z)) fun ⟨o, z⟩ => .inr ⟨o, s _ _ z⟩) (DvKv.mono s a)
  | _, _, .ins h a => .ins (s _ _ h) (DvNm.mono s a)
theorem DvNm.mono {H H' : Hp} (s : Same H H') : ∀ {gs : List (Str × V)} {ds : List (PyData × PyData)}, DvNm H gs ds → DvNm H' gs ds
  | _, _, .nil => .nil
  | _, _, .cons a b => .cons (Dv.mono s a) (DvNm.mono s b)
theorem DvAll.mono {H H' : Hp} (s : Same H H') : ∀ {vs : List V} {ds : List PyData}, DvAll H vs ds → DvAll H' vs ds
  | _, _, .nil => .nil
  | _, _, .cons a b => .cons (Dv.mono s a) (DvAll.mono s b)
theorem DvKv.mono {H H' : Hp} (s : Same H H') : ∀ {kvs : List (Key × V)} {ds : List (PyData × PyData)}, DvKv H kvs ds → DvKv H' kvs ds
  | _, _, .nil => .nil
  | _, _, .cons a b => .cons (Dv.mono s a) (DvKv.mono s b)
end
theorem Same.new {H : Hp} {p : Addr} {o : HO} (h : H p = none) : Same H (upd H p o) := fun b u e => by
  rw [upd_ne (ne_of_none e h)]
  exact e
/-- data that repr shows -/
def Good (d : PyData) : Prop := d.showable = true ∧ d.depth ≤ 100 ∧ d.shown.length ≤ sizeLine
instance (d : PyData) : Decidable (Good d) := by unfold Good; exact inferInstance
/-- a def's call, told by what it keeps -/
theorem Call.of {P : Program} {w : World} {K : PySem.W.Frag} {mg : Str → Option Value} {base : Heap} {CX : CXT} {k : Nat} {x qual : Str} {st : Stmt} {f : Addr} {fd : FuncData} {ps : List Str} {sp : Sp}
    (F : Fun K x qual st f fd) (G : FnG P w K mg base CX k f fd ps sp) (gm : mg x = some (.ref f))
    (h : ∀ (kV doc pm : Value) (an : Option Addr) (cdv ct : Value) (us : List Value), us.length = ps.length → bindArgs (PySem.W.fnOf x qual (defArgs st) (defBody st) (defScope st) .none kV doc pm an cdv ct) ⟨us, []⟩ = pure (ps.zip us)) :
    Call P w K mg base CX k x ps sp := ⟨f, fd, G, gm, F.kp, F.binds h⟩
end Tc
namespace Tc
open PySem PySem.Spec PyProof.Rows L2 Evl
/-- the lists at ps -/
inductive LL (H : Hp) : List Addr → List (List V) → Prop
  | nil : LL H [] []
  | snoc {ps : List Addr} {xss : List (List V)} {p : Addr} {xs : List V} : LL H ps xss → H p = some (.lst xs) → LL H (ps ++ [p]) (xss ++ [xs])
theorem LL.mono {H H' : Hp} : ∀ {ps : List Addr} {xss : List (List V)}, LL H ps xss → (∀ p ∈ ps, ∀ o, H p = some o → H' p = some o) → LL H' ps xss
  | _, _, .nil, _ => .nil
  | _, _, .snoc r h, s => .snoc (r.mono fun p hp => s p (List.mem_append_left _ hp)) (s _ (by simp) _ h)
theorem Call.mono {P : Program} {w : World} {K : PySem.W.Frag} {mg : Str → Option Value} {base : Heap} {CX : CXT} {j k : Nat} {x : Str} {ps : List Str} {sp : Sp} (F : Call P w K mg base CX j x ps sp) (h : j ≤ k) : Call P w K mg base CX k x ps sp := by
  obtain ⟨f, fd, G, r⟩ := F.ex
  exact ⟨f, fd, G.mono h, r⟩
/-- a whole number of the module -/
theorem pe_num {X : Cx} {x : Str} {n : Int} {p : Pos} (h : ∃ t, X.mg x = some (.int n t)) (hg : Gl X x) (hd : (x == ("__debug__" : Str)) = false := by decide) : PE X (.Name x p) (tC (.int n)) := by
  obtain ⟨t, e⟩ := h
  exact pe_glob hg e ⟨_, rfl⟩ hd
end Tc
/-! a op b op c op d; which class data are of. -/
namespace Tc
open PySem PySem.Spec PyProof.Rows L2
/-- the class of data -/
def tyD : PyData → String
  | .none => "NoneType"
  | .bool _ => "bool"
  | .int _ => "int"
  | .str _ => "str"
  | .list _ => "list"
  | .tuple _ => "tuple"
  | .dict _ => "dict"
theorem Dv.ty {K : PySem.W.Frag} {H : Hp} {v : V} {d : PyData} (h : Dv H v d) (ni : notI d = true) : TyX K H v (.type (tyD d)) := by
  cases h with
  | non => exact .base .non
  | bl b => exact .base (.bl b)
  | int i => exact .base (.int i)
  | str x => exact .base (.str x)
  | lst h _ => exact h.elim (fun h => .base (.lst h)) fun ⟨o, h⟩ => .base (.frz h)
  | tup h _ => exact h.elim (fun h => .base (.tup h)) fun ⟨o, h⟩ => .fTuple h
  | dct h _ => exact h.elim (fun h => .base (.dK h)) fun ⟨o, h⟩ => .fDict h
  | ins _ _ => cases ni
/-- isinstance of two built-in classes -/
def tyIs (a b : String) : Bool := (Value.type a == Value.type b) || ((fastBuiltinMro a).map fun l => l.contains (.type b)) == some true
theorem kit_ty {K : PySem.W.Frag} {a b : String} (h : (PySem.W.kitMeta b && (fastBuiltinMro a).isSome) = true) : PySem.W.kitOne K (.type a) (.type b) = some (tyIs a b) := by
  obtain ⟨h1, h2⟩ := Bool.and_eq_true_iff.mp h
  obtain ⟨l, hl⟩ := Option.isSome_iff_exists.mp h2
  unfold PySem.W.kitOne tyIs
  by_cases e : (Value.type a == Value.type b) = true
  · rw [if_pos e, e] <;> rfl
  · rw [if_neg e]
    have e2 : (Value.type a == Value.type b) = false := Bool.eq_false_iff.mpr e
    unfold PySem.W.kitCls
    show (if PySem.W.kitMeta b = true then PySem.W.subIn K (.type a) (.type b) else none) = _
    rw [if_pos h1, e2]
    show (fastBuiltinMro a).map _ = _
    rw [hl]
    show some (l.contains (Value.type b)) = some (false || (some (l.contains (Value.type b)) == some true))
    cases l.contains (Value.type b) <;> rfl
theorem metas : ∀ b ∈ ["int", "bool", "tuple", "str", "list"], ∀ a ∈ ["NoneType", "bool", "int", "str", "list", "tuple", "dict"], (PySem.W.kitMeta b && (fastBuiltinMro a).isSome) = true := by decide +kernel
theorem tyD_mem (d : PyData) : tyD d ∈ ["NoneType", "bool", "int", "str", "list", "tuple", "dict"] := by
  cases d <;> simp [tyD]
/-- isinstance(v, T), v data -/
theorem isi_D {K : PySem.W.Frag} {H : Hp} {v : V} {d : PyData} {T : String} {Q : VK} (h : Dv H v d) (ni : notI d = true) (hT : T ∈ ["int", "bool", "tuple", "str", "list"]) (q : Q (.bl (tyIs (tyD d) T)) H) : rIsi K [v, .ty T] H Q :=
  ⟨v, .ty T, _, _, _, rfl, .ty T, h.ty ni, kit_ty (metas T hT _ (tyD_mem d)), q⟩
theorem ty_int : ∀ d : PyData, tyIs (tyD d) "int" = (match d with | .int _ => true | .bool _ => true | _ => false) := by
  have h : tyIs "NoneType" "int" = false ∧ tyIs "bool" "int" = true ∧ tyIs "int" "int" = true ∧ tyIs "str" "int" = false ∧ tyIs "list" "int" = false ∧ tyIs "tuple" "int" = false ∧ tyIs "dict" "int" = false := by decide +kernel
  obtain ⟨h1, h2, h3, h4, h5, h6, h7⟩ := h
  intro d
  cases d <;> simp only [tyD] <;> assumption
theorem ty_bool : ∀ d : PyData, tyIs (tyD d) "bool" = (match d with | .bool _ => true | _ => false) := by
  have h : tyIs "NoneType" "bool" = false ∧ tyIs "bool" "bool" = true ∧ tyIs "int" "bool" = false ∧ tyIs "str" "bool" = false ∧ tyIs "list" "bool" = false ∧ tyIs "tuple" "bool" = false ∧ tyIs "dict" "bool" = false := by decide +kernel
  obtain ⟨h1, h2, h3, h4, h5, h6, h7⟩ := h
  intro d
  cases d <;> simp only [tyD] <;> assumption
theorem ty_tuple : ∀ d : PyData, tyIs (tyD d) "tuple" = (match d with | .tuple _ => true | _ => false) := by
  have h : tyIs "NoneType" "tuple" = false ∧ tyIs "bool" "tuple" = false ∧ tyIs "int" "tuple" = false ∧ tyIs "str" "tuple" = false ∧ tyIs "list" "tuple" = false ∧ tyIs "tuple" "tuple" = true ∧ tyIs "dict" "tuple" = false := by decide +kernel
  obtain ⟨h1, h2, h3, h4, h5, h6, h7⟩ := h
  intro d
  cases d <;> simp only [tyD] <;> assumption
theorem DvAll.len {H : Hp} : ∀ {vs : List V} {ds : List PyData}, DvAll H vs ds → vs.length = ds.length
  | _, _, .nil => rfl
  | _, _, .cons _ h => congrArg Nat.succ h.len
end Tc
/-! calls of defs that may stand under a repr, by place and by name. -/
namespace Tc
open PySem PySem.Spec PyProof.Rows L2
/-- as Call, whoever calls -/
structure CallO (P : Program) (w : World) (K : PySem.W.Frag) (mg : Str → Option Value) (base : Heap) (CX : CXT)
    (k : Nat) (x : Str) (ps : List Str) (sp : Sp) : Prop where
  ex : ∃ f fd, FnOk P w K mg base CX k f fd ps sp ∧ mg x = some (.ref f) ∧ PySem.W.keepIn K (.ref f) = true ∧ Binds K fd ps []
theorem CallO.call {P : Program} {w : World} {K : PySem.W.Frag} {mg : Str → Option Value} {base : Heap} {CX : CXT} {k : Nat} {x : Str} {ps : List Str} {sp : Sp}
    (F : CallO P w K mg base CX k x ps sp) : Call P w K mg base CX k x ps sp := by
  obtain ⟨f, fd, G, r⟩ := F.ex
  exact ⟨f, fd, .of G, r⟩
theorem CallO.of {P : Program} {w : World} {K : PySem.W.Frag} {mg : Str → Option Value} {base : Heap} {CX : CXT} {k : Nat} {x qual : Str} {st : Stmt} {f : Addr} {fd : FuncData} {ps : List Str} {sp : Sp}
    (F : Fun K x qual st f fd) (G : FnOk P w K mg base CX k f fd ps sp) (gm : mg x = some (.ref f))
    (h : ∀ (kV doc pm : Value) (an : Option Addr) (cdv ct : Value) (us : List Value), us.length = ps.length → bindArgs (PySem.W.fnOf x qual (defArgs st) (defBody st) (defScope st) .none kV doc pm an cdv ct) ⟨us, []⟩ = pure (ps.zip us)) :
    CallO P w K mg base CX k x ps sp := ⟨f, fd, G, gm, F.kp, F.binds h⟩
end Tc
/-! The head's facts with the tables of defs that make lambdas; the law's end with these, no repr around. -/
namespace Tc
open PySem PySem.Spec PyProof.Rows L2
end Tc
namespace Tc
open PySem PySem.Spec PyProof.Rows L2
section
variable {P : Program} {w : World} {K : PySem.W.Frag} {mg mb : Str → Option Value} {CX : CXT}
  {k : Nat} {fa a : Addr} {cs : List (Addr × Addr)} {fd : FuncData} {x : Str} {sp : Sp} {s₁ : Shared} {vs : List Value} {ns : List Int}
/-- an empty table of code objects -/
abbrev tab0 : Obj := { cls := .none, data := .fields #[] }
abbrev scriptO (vs : List Value) : Obj := { cls := .type "list", data := .seq vs.toArray }
/-- the law's call, from a heap in which the tables and at most the script are tracked -/
theorem callT_from (KX : K.In s₁.heap) (hns : s₁.heap.Ns mainGlobals mg) (hb : s₁.heap.Ns builtinsNs mb)
    (hbb : ∀ y : Str, y ≠ "__name__" → mb y = bootBuiltins y) (hlim : s₁.heap.NoLimit) (hg : s₁.gens = #[])
    (hT : ∀ p ∈ cs, s₁.heap.get? p.2 = some tab0) (nT : ∀ p ∈ cs, K.lookup p.2 = none) (C : ∀ p ∈ cs, PySem.W.CodeHd s₁.heap p.1 p.2)
    (hbm : ∃ (bm : Addr) (ob : Obj), mg "__builtins__" = some (.ref bm) ∧ bm ≠ builtinsNs ∧ s₁.heap.get? bm = some ob ∧ ob.cls = .type "module" ∧ ob.dict = some builtinsNs ∧ ob.data = .plain)
    (ha : s₁.heap.get? a = some (scriptO vs)) (hr : Room k callerA)
    (F : ∀ base : Heap, K.In base → base.Ns mainGlobals mg → (∀ p ∈ cs, LamX.TabB base mg p.1 p.2) → FnG P w K mg base CX k fa fd [x] sp)
    (hbind : ∀ (s : Shared) (u : Value), BindsTo s fd ⟨[u], []⟩ [(x, u)])
    (hCX : ∀ H e s', CX [] H s₁ (fun _ _ _ => False) e s' → False)
    (H : Hp) (hH : ∀ p ∈ cs, H p.2 = some (.tbl #[])) (hO : ∀ b, H b = none ∨ b ∈ cs.map (·.2) ∨ ∃ o xs, H b = some (.frz o (.lst xs)))
    (hsp : sp [.ref a] H (fun v _ => v = .bl true) fun _ _ _ => False)
    (hok : HOk P w H s₁.heap) (hA : ∀ b, H b ≠ none → b = a ∨ b ∈ cs.map (·.2)) (hK : H a ≠ none → K.lookup a = none) :
    codeAny (model P w) callerA (.call (.ref fa) ⟨[.ref a], []⟩) (Behind s₁) s₁ := by
  have tabAt : ∀ b, b ∈ cs.map (·.2) → s₁.heap.get? b = some tab0 := by
    intro b hb
    obtain ⟨p, hp, rfl⟩ := List.mem_map.mp hb
    exact hT p hp
  have hid : ∀ {b : Addr} {o : Obj}, s₁.heap.get? b = some o → H b = none → (hidT s₁.heap H).get? b = some o := fun e n => hidT_get e n
  -- what is neither the script nor a table is not tracked
  have free : ∀ {b : Addr} {o : Obj}, s₁.heap.get? b = some o → (∀ vs n, o.data ≠ .seq vs n) → o.data ≠ .fields #[] → H b = none := by
    intro b o e h1 h2
    cases q : H b with
    | none => rfl
    | some u =>
      rcases hA b (by rw [q]; exact Option.some_ne_none u) with z | z
      · rw [z, ha] at e
        cases e
        exact (h1 _ _ rfl).elim
      · rw [tabAt b z] at e
        cases e
        exact (h2 rfl).elim
  have freeD : ∀ {b : Addr} {o : Obj} {es : Array DictEntry} {ep : Nat}, s₁.heap.get? b = some o → o.data = .dict es ep → H b = none := fun e d =>
    free e (fun vs n z => by rw [d] at z; cases z) (fun z => by rw [d] at z; cases z)
  have names : ∀ {b : Addr} {m : Str → Option Value}, s₁.heap.Ns b m → (hidT s₁.heap H).Ns b m := by
    rintro b m ⟨o, es, ep, e, d, r⟩
    exact ⟨o, es, ep, hid e (freeD e d), d, r⟩
  have written : K.In (hidT s₁.heap H) := by
    intro b o e
    refine hid (KX b o e) ?_
    cases q : H b with
    | none => rfl
    | some u =>
      rcases hA b (by rw [q]; exact Option.some_ne_none u) with z | z
      · rw [z] at e q
        rw [hK (by rw [q]; exact Option.some_ne_none u)] at e
        cases e
      · obtain ⟨p, hp, rfl⟩ := List.mem_map.mp z
        rw [nT p hp] at e
        cases e
  have TB : ∀ p ∈ cs, LamX.TabB (hidT s₁.heap H) mg p.1 p.2 := by
    intro p hp
    have here := hT p hp
    refine ⟨?_, ?_, ?_⟩
    · obtain ⟨o, us, file, tf, flags, tg, inF, text, tt, e1, r1, r2, r3, rest⟩ := C p hp
      refine ⟨o, us, file, tf, flags, tg, inF, text, tt, hid e1 (free e1 (fun vs n z => ?_) fun z => ?_), r1, r2, r3, rest⟩
      · rw [r2] at z
        cases z
      · rw [r2] at z
        cases z
        simp at r3
    · obtain ⟨bm, ob, b1, b2, b3, b4, b5, b6⟩ := hbm
      have nG : bm ≠ mainGlobals := by
        intro q
        obtain ⟨o, es, ep, e, d, _⟩ := hns
        rw [q, e] at b3
        cases b3
        rw [d] at b6
        cases b6
      have nP : bm ≠ p.2 := by
        intro q
        rw [q, here] at b3
        cases b3
        cases b6
      exact ⟨bm, ob, b1, b2, nG, nP, hid b3 (free b3 (fun vs n z => by rw [b6] at z; cases z) (fun z => by rw [b6] at z; cases z)), b4, b5, b6⟩
    · intro z
      obtain ⟨o, es, ep, e, d, _⟩ := hns
      rw [z, here] at e
      cases e
      cases d
  have e0 : Env0 P w K mg (hidT s₁.heap H) callerA [] s₁ H :=
    ⟨rfl, ⟨written, names hns, ⟨mb, names hb, hbb⟩, by obtain ⟨mc, h1, h2⟩ := hlim; exact ⟨mc, names h1, h2⟩⟩, fun b o e => of_hidT e, Nat.le_of_eq (hidT_size _ _), trivial,
      fun b h => (List.not_mem_nil (show b ∈ ([] : List Addr) from h)).elim, hok, .of_eq hg⟩
  have run := (F _ written (names hns) TB).run callerA [] s₁ H ⟨[.ref a], []⟩ [.ref a] [.ref a] _ _ hr rfl e0 (hbind s₁ (.ref a)) (.cons rfl .nil) hsp
  refine codeAny_mono run ?_
  intro r s' h
  rcases r with e | fl
  · exact (hCX H e s' h).elim
  cases fl with
  | next | brk | cont => exact False.elim h
  | ret u =>
    obtain ⟨v, H', os, bare, un, hok', rv, q⟩ := h
    have hv : v = .bl true := q
    subst hv
    have hu : u = Value.bool true := rv
    subst hu
    have old : ∀ b o, b ∉ cs.map (·.2) → s₁.heap.get? b = some o → s'.heap.get? b = some o := by
      intro b o nb e
      cases q : H b with
      | none => exact un.keep b o e q (fun z => nomatch (show b ∈ ([] : List Addr) from z)) (fun z => nomatch z)
      | some u =>
        rcases hO b with z | z | ⟨ob, xs, z⟩
        · rw [q] at z
          cases z
        · exact absurd z nb
        · have now := (hok b _ z).1
          have later := (hok' b _ (un.frzs b ob _ z)).1
          rw [e] at now
          cases now
          exact later
    have grown : ∀ p ∈ cs, ∃ more : Array Value, s'.heap.get? p.2 = some { cls := .none, data := .fields more } := by
      intro p hp
      obtain ⟨more, z⟩ := un.tbls p.2 #[] (hH p hp)
      exact ⟨_, hok' p.2 _ z⟩
    refine ⟨rfl, ⟨fun b o e => ?_, fun b o e => ?_⟩, os, bare⟩
    · by_cases hb : b ∈ cs.map (·.2)
      · obtain ⟨p, hp, rfl⟩ := List.mem_map.mp hb
        obtain ⟨more, hm⟩ := grown p hp
        rw [hT p hp] at e
        cases e
        exact .inr (.inl ⟨((C p hp).tab (hT p hp)).isCodeTable, rfl, #[], more, rfl, by rw [Array.empty_append]; exact hm⟩)
      · exact .inl (old b o hb e)
    · by_cases hb : b ∈ cs.map (·.2)
      · obtain ⟨p, hp, rfl⟩ := List.mem_map.mp hb
        obtain ⟨more, hm⟩ := grown p hp
        exact ⟨_, hm⟩
      · exact ⟨o, old b o hb e⟩
/-- the law's call -/
theorem law_callTG (KX : K.In s₁.heap) (hns : s₁.heap.Ns mainGlobals mg) (hb : s₁.heap.Ns builtinsNs mb)
    (hbb : ∀ y : Str, y ≠ "__name__" → mb y = bootBuiltins y) (hlim : s₁.heap.NoLimit) (hg : s₁.gens = #[])
    (hT : ∀ p ∈ cs, s₁.heap.get? p.2 = some tab0) (nT : ∀ p ∈ cs, K.lookup p.2 = none) (C : ∀ p ∈ cs, PySem.W.CodeHd s₁.heap p.1 p.2)
    (hbm : ∃ (bm : Addr) (ob : Obj), mg "__builtins__" = some (.ref bm) ∧ bm ≠ builtinsNs ∧ s₁.heap.get? bm = some ob ∧ ob.cls = .type "module" ∧ ob.dict = some builtinsNs ∧ ob.data = .plain)
    (ha : s₁.heap.get? a = some (scriptO vs)) (hi : IntsAre vs ns) (hl : ns.length ≤ sizeLine) (hr : Room k callerA)
    (F : ∀ base : Heap, K.In base → base.Ns mainGlobals mg → (∀ p ∈ cs, LamX.TabB base mg p.1 p.2) → FnG P w K mg base CX k fa fd [x] sp)
    (hbind : ∀ (s : Shared) (u : Value), BindsTo s fd ⟨[u], []⟩ [(x, u)])
    (hsp : ∀ H : Hp, (∀ p ∈ cs, H p.2 = some (.tbl #[])) → SqL K H a (ns.map V.int) → sp [.ref a] H (fun v _ => v = .bl true) fun _ _ _ => False)
    (hCX : ∀ H e s', CX [] H s₁ (fun _ _ _ => False) e s' → False) :
    codeAny (model P w) callerA (.call (.ref fa) ⟨[.ref a], []⟩) (Behind s₁) s₁ := by
  have rv := vals_ints hi
  have main := fun H hH hO hq => callT_from (sp := sp) KX hns hb hbb hlim hg hT nT C hbm ha hr F hbind hCX H hH hO hq
  have mem : ∀ p ∈ cs, p.2 ∈ cs.map (·.2) := fun p hp => List.mem_map.mpr ⟨p, hp, rfl⟩
  have tabAt : ∀ b, b ∈ cs.map (·.2) → s₁.heap.get? b = some tab0 := by
    intro b hb
    obtain ⟨p, hp, rfl⟩ := List.mem_map.mp hb
    exact hT p hp
  have aT : a ∉ cs.map (·.2) := by
    intro z
    have q := tabAt a z
    rw [ha] at q
    have z' : Data.seq vs.toArray _ = Data.fields #[] := congrArg Obj.data (Option.some.inj q)
    cases z'
  cases hk : K.lookup a with
  | some o =>
    have e := KX a o hk
    rw [ha] at e
    cases e
    let H : Hp := fun b => if b ∈ cs.map (·.2) then some (.tbl #[]) else none
    have on : ∀ {b : Addr}, b ∈ cs.map (·.2) → H b = some (.tbl #[]) := fun hb => if_pos hb
    have off : ∀ {b : Addr}, b ∉ cs.map (·.2) → H b = none := fun hb => if_neg hb
    refine main H (fun p hp => on (mem p hp)) (fun b => ?_) (hsp H (fun p hp => on (mem p hp)) (.inr ⟨_, vs.toArray, _, hk, rfl, rfl, rfl, ?_, by simpa using rv⟩)) (fun b u z => ?_) (fun b z => ?_) (fun z => absurd (off aT) z)
    · by_cases hb : b ∈ cs.map (·.2)
      · exact .inr (.inl hb)
      · exact .inl (off hb)
    · rw [List.size_toArray, hi.length]
      exact hl
    · by_cases hb : b ∈ cs.map (·.2)
      · rw [on hb] at z
        cases z
        exact tabAt b hb
      · rw [off hb] at z
        cases z
    · by_cases hb : b ∈ cs.map (·.2)
      · exact .inr hb
      · exact absurd (off hb) z
  | none =>
    let H : Hp := fun b => if b = a then some (.frz (scriptO vs) (.lst (ns.map V.int))) else if b ∈ cs.map (·.2) then some (.tbl #[]) else none
    have at_a : H a = some (.frz (scriptO vs) (.lst (ns.map V.int))) := if_pos rfl
    have on : ∀ {b : Addr}, b ∈ cs.map (·.2) → H b = some (.tbl #[]) := fun {b} hb => (if_neg (show ¬ b = a from fun z => aT (by rw [← z]; exact hb))).trans (if_pos hb)
    have off : ∀ {b : Addr}, b ≠ a → b ∉ cs.map (·.2) → H b = none := fun n hb => (if_neg n).trans (if_neg hb)
    refine main H (fun p hp => on (mem p hp)) (fun b => ?_) (hsp H (fun p hp => on (mem p hp)) (.inl (.inr ⟨_, at_a⟩))) (fun b u z => ?_) (fun b z => ?_) (fun _ => hk)
    · by_cases n : b = a
      · rw [n]
        exact .inr (.inr ⟨_, _, at_a⟩)
      · by_cases hb : b ∈ cs.map (·.2)
        · exact .inr (.inl hb)
        · exact .inl (off n hb)
    · by_cases n : b = a
      · subst n
        rw [at_a] at z
        cases z
        exact ⟨ha, by rw [List.length_map]; exact hl, vs, _, rv, ha⟩
      · by_cases hb : b ∈ cs.map (·.2)
        · rw [on hb] at z
          cases z
          exact tabAt b hb
        · rw [off n hb] at z
          cases z
    · by_cases n : b = a
      · exact .inl n
      · by_cases hb : b ∈ cs.map (·.2)
        · exact .inr hb
        · exact absurd (off n hb) z
end
/-- the end of a law's row, from a word about the head, with tables -/
theorem walk_endTG {l : PySem.W.OpenLaw} {n k : Nat} {q : Program} {loose : List Str} {XP : (Str → Option Value) → Heap → Prop} {YP : World → Heap → Prop} {d : DefRec} {CX : World → CXT} {x : Str}
    (hm : l.most = some n) (hs : n ≤ sizeLine) (h0 : d.params.defaults = []) (hr : Room k callerA)
    (F : ∀ (w : World) (mg : Str → Option Value) (fa : Addr) (h : Heap), YP w h → h.Ns mainGlobals mg → mg d.name = some (.ref fa) →
      ∃ (K : PySem.W.Frag) (fd : FuncData) (cs : List (Addr × Addr)) (sp : Sp), K.In h ∧ (∀ (s : Shared) (u : Value), BindsTo s fd ⟨[u], []⟩ [(x, u)]) ∧
        ((∀ p ∈ cs, h.get? p.2 = some tab0) ∧ (∀ p ∈ cs, K.lookup p.2 = none) ∧ ∀ p ∈ cs, PySem.W.CodeHd h p.1 p.2) ∧
        (∀ base : Heap, K.In base → base.Ns mainGlobals mg → (∀ p ∈ cs, LamX.TabB base mg p.1 p.2) → FnG l.prog w K mg base (CX w) k fa fd [x] sp) ∧
        ∀ (H : Hp) (a : Addr) (ns : List Int), ns.length ≤ n → (∀ p ∈ cs, H p.2 = some (.tbl #[])) → SqL K H a (ns.map V.int) → sp [.ref a] H (fun v _ => v = .bl true) fun _ _ _ => False)
    (hX : ∀ (w : World) (H : Hp) (s : Shared) (e : Value) (s' : Shared), ¬ CX w [] H s (fun _ _ _ => False) e s') :
    PySem.W.WalkO q loose XP YP l.row.toRowW d [] (fun f vs => PySem.call f vs) := by
  refine Att.attach_callB hm h0 ?_
  intro w s₀ s₁ mg mb fa o pm cd doc a vs ns G Y ho hd hcd hmg hobj hints hlen hbits hg
  obtain ⟨K, fd, cs, sp, KX, hb, ⟨hT, nT, C⟩, hF, hsp⟩ := F w mg fa _ Y G.T.g hmg
  exact law_callTG KX G.T.g G.T.b G.T.builtins G.T.nolimit hg hT nT C G.T.bmain hobj hints (Nat.le_trans hlen hs) hr hF hb
    (fun H hH hS => hsp H a ns hlen hH hS) (fun H e s' => hX w H s₁ e s')
end Tc
/-! The head's facts where classes have properties and classmethods: their defs stand behind records. -/
namespace Tc
open PySem PySem.Spec PyProof.Rows L2
/-- where a def stands: a global, a method, a property's getter, a classmethod's def -/
inductive Way where
  | glo (x : Str)
  | meth (x m : Str)
  | prop (x m : Str)
  | cmeth (x m : Str)
/-- the first thing of a record -/
def recAd (K : PySem.W.Frag) (T : String) (p : Addr) : Addr := match PySem.W.recIn K p T with
  | some (.ref g :: _) => g
  | _ => 0
def Way.ad (K : PySem.W.Frag) : Way → Addr
  | .glo x => He.ga K x
  | .meth x m => He.ma K (He.ga K x) m
  | .prop x m => recAd K "property" (He.ma K (He.ga K x) m)
  | .cmeth x m => recAd K "classmethod" (He.ma K (He.ga K x) m)
structure FnQ where
  way : Way
  name : Str
  qual : Str
  st : Stmt
def FnQ.val (d : FnQ) : He.FnV := some (d.name, d.qual, defArgs d.st, .stmts (defBody d.st), defScope d.st, mainGlobals, [], .none, builtinsNs)
/-- a def's own data at an address -/
def dataAt (K : PySem.W.Frag) (a : Addr) : Option FuncData := match K.lookup a with
  | some o => (match o.data with
    | .func fd => some fd
    | _ => none)
  | none => none
def seen (fd : FuncData) : He.FnV := some (fd.name, fd.qualname, fd.params, fd.body, fd.scope, fd.globals, fd.closure, fd.defaults, fd.builtins)
def seenAt (K : PySem.W.Frag) (a : Addr) : He.FnV := (dataAt K a).bind seen
def codeAt (K : PySem.W.Frag) (a : Addr) (q : Str) : Bool := match dataAt K a with
  | some fd => PySem.W.codeIn K fd.code q
  | none => false
theorem def_ok {K : PySem.W.Frag} {a : Addr} {d : FnQ} (e : seenAt K a = d.val) (c : codeAt K a d.qual = true) (k : PySem.W.keepIn K (.ref a) = true) : ∃ fd, Fun K d.name d.qual d.st a fd := by
  unfold seenAt dataAt at e
  unfold codeAt dataAt at c
  cases q : K.lookup a with
  | none =>
    rw [q] at c
    cases c
  | some o =>
    rw [q] at c e
    obtain ⟨oc, od, dt, osl⟩ := o
    cases dt with
    | func fd =>
      cases fd
      have e2 := Option.some.inj e
      simp only [Prod.mk.injEq] at e2
      obtain ⟨h1, h2, h3, h4, h5, h6, h7, h8, h9⟩ := e2
      subst h1 h2 h3 h4 h5 h6 h7 h8 h9
      exact ⟨_, fun_mk q c k⟩
    | _ => cases c
/-- records' first things -/
def recOf (o : Obj) : List Addr := match o.cls, o.data with
  | .type "property", .fields vs => vs.toList.flatMap He.refV
  | .type "classmethod", .fields vs => vs.toList.flatMap He.refV
  | _, _ => []
/-- the things in a tuple -/
def tupOf (o : Obj) : List Addr := match o.cls, o.data with
  | .type "tuple", .seq vs _ => vs.toList.flatMap He.refV
  | _, _ => []
def adsQ (g : Addr → Option Obj) : List Addr :=
  let l1 := reach g valsOf [mainGlobals]
  let l2 := reach g nsOf l1
  let l3 := reach g valsOf l2
  let l4 := reach g recOf l3
  mainGlobals :: sysModules :: (l1 ++ (l2 ++ (l3 ++ (l4 ++ (reach g tupOf l1 ++ reach g codeOf (l1 ++ (l3 ++ l4)))))))
def frQ (g : Addr → Option Obj) : PySem.W.Frag := He.frT g (adsQ g)
def obsC (F : PySem.W.Frag → Bool) (fn : List FnQ) (K : PySem.W.Frag) : He.Al :=
  (F K && fn.all fun d => PySem.W.keepIn K (.ref (d.way.ad K)) && codeAt K (d.way.ad K) d.qual, fn.map fun d => seenAt K (d.way.ad K))
def SaysC (F : PySem.W.Frag → Bool) (fn : List FnQ) (K : PySem.W.Frag) : Prop := obsC F fn K = (true, fn.map FnQ.val)
theorem SaysC.fact {F : PySem.W.Frag → Bool} {fn : List FnQ} {K : PySem.W.Frag} (c : SaysC F fn K) : F K = true :=
  (He.ba (congrArg (fun z : He.Al => z.1) c)).1
theorem SaysC.fun_ {F : PySem.W.Frag → Bool} {fn : List FnQ} {K : PySem.W.Frag} (c : SaysC F fn K) (i : Nat) {w : Way} {x q : Str} {st : Stmt} (h : fn[i]? = some ⟨w, x, q, st⟩ := by rfl) :
    ∃ fd, Fun K x q st (w.ad K) fd := by
  have c1 := (He.ba (congrArg (fun z : He.Al => z.1) c)).2
  obtain ⟨kp, cd⟩ := He.ba (List.all_eq_true.mp c1 _ (List.mem_of_getElem? h))
  have e : fn.map (fun d => seenAt K (d.way.ad K)) = fn.map FnQ.val := congrArg (fun z : He.Al => z.2) c
  have e2 : (fn.map fun d => seenAt K (d.way.ad K))[i]? = (fn.map FnQ.val)[i]? := by rw [e]
  rw [List.getElem?_map, List.getElem?_map, h] at e2
  exact def_ok (d := ⟨w, x, q, st⟩) (Option.some.inj e2) cd kp
structure SaysQ (F : PySem.W.Frag → Bool) (fn : List FnQ) (tf : List He.Defn) (h : Heap) (K : PySem.W.Frag) : Prop where
  core : SaysC F fn K
  hd : ∀ p ∈ tf, PySem.W.codeHdIn K (He.cT K p).1 (He.cT K p).2 = true
  out : ∀ p ∈ tf, K.lookup (He.cT K p).2 = none
  empty : ∀ p ∈ tf, h.get? (He.cT K p).2 = some { cls := .none, data := .fields #[] }
def obsQ (F : PySem.W.Frag → Bool) (fn : List FnQ) (tf : List He.Defn) (g : Addr → Option Obj) : He.Al × Bool := (obsC F fn (frQ g), He.tabsB g tf (frQ g))
theorem saysQ_of {F : PySem.W.Frag → Bool} {fn : List FnQ} {tf : List He.Defn} {h : Heap} (e : obsQ F fn tf h.get? = ((true, fn.map FnQ.val), true)) : SaysQ F fn tf h (frQ h.get?) := by
  have e1 : SaysC F fn (frQ h.get?) := congrArg (fun z : He.Al × Bool => z.1) e
  have e2 : He.tabsB h.get? tf (frQ h.get?) = true := congrArg (fun z : He.Al × Bool => z.2) e
  have all : ∀ p ∈ tf, PySem.W.codeHdIn (frQ h.get?) (He.cT (frQ h.get?) p).1 (He.cT (frQ h.get?) p).2 = true ∧ ∃ o, h.get? (He.cT (frQ h.get?) p).2 = some o ∧ He.emptyTab o = true := fun p hp => by
    obtain ⟨a, b⟩ := He.ba (List.all_eq_true.mp e2 p hp)
    cases q : h.get? (He.cT (frQ h.get?) p).2 with
    | none =>
      rw [q] at b
      cases b
    | some o =>
      rw [q] at b
      exact ⟨a, o, rfl, b⟩
  refine ⟨e1, fun p hp => (all p hp).1, fun p hp => ?_, fun p hp => ?_⟩
  · obtain ⟨_, o, q, z⟩ := all p hp
    exact He.frT_none q z
  · obtain ⟨_, o, q, z⟩ := all p hp
    exact q.trans (congrArg some (He.emptyTab_eq z))
def hookQ (F : PySem.W.Frag → Bool) (fn : List FnQ) (tf : List He.Defn) : PySem.W.Hook where
  α := He.Al × Bool
  obs := fun s => obsQ F fn tf s.heap.get?
  val := fun _ => ((true, fn.map FnQ.val), true)
  says := fun _ h => ∃ K : PySem.W.Frag, K.In h ∧ SaysQ F fn tf h K
  of := fun _ _ e => ⟨_, He.frT_in, saysQ_of e⟩
  keeps := fun _ _ _ ⟨K, hK, c⟩ k => ⟨K, PySem.W.Frag.In.keeps hK k, ⟨c.core, c.hd, c.out, fun p hp => k _ _ (c.empty p hp)⟩⟩
theorem obsQ_eq {F : PySem.W.Frag → Bool} {fn : List FnQ} {tf : List He.Defn} {g : Addr → Option Obj} {s : Shared} (h : ∀ a, g a = s.heap.get? a) : obsQ F fn tf g = (hookQ F fn tf).obs s := by
  rw [show g = s.heap.get? from funext h]
  rfl
/-! ### classes by Bools -/
/-- a plain own class that is made by its own __init__ -/
def mkB (K : PySem.W.Frag) (x : Str) : Bool := (He.Fa.cls x).ok K && (He.Fa.mkr x).ok K
theorem mkB_cls {K : PySem.W.Frag} {x : Str} (h : mkB K x = true) : Cls K (He.ga K x) := He.cls_ok (He.ba h).1
theorem mkB_mk {K : PySem.W.Frag} {x : Str} (h : mkB K x = true) : Mk K (He.ga K x) (Way.ad K (.meth x "__init__")) := He.mkr_ok (He.ba h).2
/-- x.m is a property -/
def propB (K : PySem.W.Frag) (x m : Str) : Bool :=
  let p := He.ma K (He.ga K x) m
  He.eqO (PySem.W.findIn K (.ref (He.ga K x)) m) (some (some (.ref p))) && (He.eqO (PySem.W.specialIn K (.ref p) "__get__") (some (some (.builtin "property.__get__"))) &&
    (decide (PySem.W.takesIn K (.ref p) = some true) && (match PySem.W.recIn K p "property" with
      | some (.ref _ :: _) => true
      | _ => false)))
theorem rec_first {K : PySem.W.Frag} {T : String} {p : Addr} (h : (match PySem.W.recIn K p T with
      | some (.ref _ :: _) => true
      | _ => false) = true) : ∃ rest, PySem.W.recIn K p T = some (.ref (recAd K T p) :: rest) := by
  unfold recAd
  cases e : PySem.W.recIn K p T with
  | none =>
    rw [e] at h
    cases h
  | some l =>
    rw [e] at h
    cases l with
    | nil => cases h
    | cons v r =>
      cases v with
      | ref g => exact ⟨r, rfl⟩
      | _ => cases h
theorem propB_ok {K : PySem.W.Frag} {x m : Str} (h : propB K x m = true) : PropOf K (He.ga K x) m (He.ma K (He.ga K x) m) (Way.ad K (.prop x m)) := by
  obtain ⟨h1, h⟩ := He.ba h
  obtain ⟨h2, h⟩ := He.ba h
  obtain ⟨h3, h4⟩ := He.ba h
  exact ⟨He.eqO_ok h1, He.eqO_ok h2, of_decide_eq_true h3, rec_first h4⟩
end Tc
/-! Texts of numbers and of stretches: written, cut, read back. -/
namespace Tc
open PySem TL
abbrev val (l : List Nat) : Nat := NumText.digitsVal l
/-! ### cut at the dashes -/
end Tc
/-! Data that repr shows, told by what bounds them. -/
namespace Tc
open PySem PySem.Spec PyProof.Rows L2
structure Fine (d : PyData) (n k : Nat) : Prop where
  lay : d.canLay0 = true
  sh : d.showable = true
  short : d.intsShort 13 = true
  wt : d.weight ≤ n
  dp : d.depth ≤ k
structure FineAll (ds : List PyData) (n k : Nat) : Prop where
  lay : PyData.canLayAll0 ds = true
  sh : PyData.showableAll ds = true
  short : PyData.intsShortAll 13 ds = true
  wt : PyData.weightAll ds ≤ n
  dp : PyData.depthAll ds ≤ k
theorem Fine.good {d : PyData} {n k : Nat} (f : Fine d n k) (hn : n ≤ 1000000) (hk : k ≤ 60) : Good d := by
  refine ⟨f.sh, Nat.le_trans f.dp (by omega), ?_⟩
  have l : PyData.layable0 d = true := by
    unfold PyData.layable0
    have h1 : decide (PyData.depth d ≤ 64) = true := decide_eq_true (Nat.le_trans f.dp (by omega))
    have h2 : decide (PyData.weight d ≤ 2 ^ 20) = true := decide_eq_true (Nat.le_trans f.wt (by omega))
    rw [f.lay, h1, h2]
    rfl
  exact Nat.le_trans (shown_le13 l f.short) (by decide)
theorem Fine.mono {d : PyData} {n k m l : Nat} (f : Fine d n k) (h1 : n ≤ m) (h2 : k ≤ l) : Fine d m l := ⟨f.lay, f.sh, f.short, Nat.le_trans f.wt h1, Nat.le_trans f.dp h2⟩
theorem Fine.non : Fine .none 0 0 := ⟨rfl, rfl, rfl, Nat.le_refl 0, Nat.le_refl 0⟩
theorem Fine.bl (b : Bool) : Fine (.bool b) 0 0 := ⟨rfl, rfl, rfl, Nat.le_refl 0, Nat.le_refl 0⟩
theorem Fine.str {x : Str} (h : x.cps.all (· < 0x110000) = true) : Fine (.str x) x.length 0 := ⟨h, rfl, rfl, Nat.le_refl _, Nat.le_refl 0⟩
theorem Fine.int {i : Int} (h0 : -1 ≤ i) (h1 : i ≤ 100000) : Fine (.int i) 18 0 := by
  have hb : i.natAbs < 2 ^ 17 := by omega
  have lg : i.natAbs.log2 < 17 := by
    by_cases e : i.natAbs = 0
    · rw [e]
      decide
    · exact (Nat.log2_lt e).mpr hb
  refine ⟨rfl, decide_eq_true (by omega), ?_, ?_, Nat.le_refl 0⟩
  · refine decide_eq_true ?_
    show (Str.ofString (toString i)).length ≤ 13
    by_cases z : i = -1
    · rw [z]
      decide
    · exact Nat.le_trans (PyProof.Rows.toString_length_le (by omega) (k := 6) (by decide) (by omega)) (by decide)
  · show (if i == 0 then 0 else i.natAbs.log2 + 1) ≤ 18
    split <;> omega
theorem FineAll.nil {k : Nat} : FineAll [] 0 k := ⟨rfl, rfl, rfl, Nat.le_refl 0, Nat.zero_le k⟩
theorem FineAll.cons {d : PyData} {ds : List PyData} {n m k l : Nat} (f : Fine d n l) (g : FineAll ds m k) (h : l ≤ k) : FineAll (d :: ds) (n + 1 + m) k := by
  refine ⟨?_, ?_, ?_, ?_, ?_⟩
  · show (d.canLay0 && PyData.canLayAll0 ds) = true
    rw [f.lay, g.lay] <;> rfl
  · show (d.showable && PyData.showableAll ds) = true
    rw [f.sh, g.sh] <;> rfl
  · show (d.intsShort 13 && PyData.intsShortAll 13 ds) = true
    rw [f.short, g.short] <;> rfl
  · show d.weight + 1 + PyData.weightAll ds ≤ _
    have := f.wt
    have := g.wt
    omega
  · show max d.depth (PyData.depthAll ds) ≤ k
    have := f.dp
    have := g.dp
    omega
theorem Fine.lst {ds : List PyData} {n k : Nat} (f : FineAll ds n k) : Fine (.list ds) n (k + 1) := ⟨f.lay, f.sh, f.short, f.wt, Nat.succ_le_succ f.dp⟩
theorem Fine.tup {ds : List PyData} {n k : Nat} (f : FineAll ds n k) : Fine (.tuple ds) n (k + 1) := ⟨f.lay, f.sh, f.short, f.wt, Nat.succ_le_succ f.dp⟩
end Tc
/-! list of a text. -/
namespace Tc
open PySem PySem.Spec PyProof.Rows L2 TL
end Tc
/-! A def whose code object is known, for those that make lambdas. -/
namespace Tc
open PySem PySem.Spec PyProof.Rows L2
end Tc
/-! Data and a list that changes. -/
namespace Tc
open PySem PySem.Spec PyProof.Rows L2
end Tc
/-! Data and tables. -/
namespace Tc
open PySem PySem.Spec PyProof.Rows L2
open LamX (Tabs TabS ExtN CodeO)
mutual
theorem Dv.ext {H H' : Hp} (s : ExtN H H') : ∀ {v : V} {d : PyData}, Dv H v d → Dv H' v d
  | _, _, .non => .non
  | _, _, .bl b => .bl b
  | _, _, .int i => .int i
  | _, _, .str x => .str x
  | _, _, .lst h a => .lst (h.elim (fun z => .inl (s _ _ z fun _ e => nomatch e)) fun ⟨o, z⟩ => .inr ⟨o, s _ _ z fun _ e => nomatch e⟩) (DvAll.ext s a)
  | _, _, .tup h a => .tup (h.elim (fun z => .inl (s _ _ z fun _ e => nomatch e)) fun ⟨o, z⟩ => .inr ⟨o, s _ _ z fun _ e => nomatch e⟩) (DvAll.ext s a)
  | _, _, .dct h a => .dct (h.elim (fun z => .inl (s _ _ z fun _ e => nomatch e)) fun ⟨o, z⟩ => .inr ⟨o, s _ _ z fun _ e => nomatch e⟩) (DvKv.ext s a)
  | _, _, .ins h a => .ins (s _ _ h fun _ e => nomatch e) (DvNm.ext s a)
theorem DvNm.ext {H H' : Hp} (s : ExtN H H') : ∀ {gs : List (Str × V)} {ds : List (PyData × PyData)}, DvNm H gs ds → DvNm H' gs ds
  | _, _, .nil => .nil
  | _, _, .cons a b => .cons (Dv.ext s a) (DvNm.ext s b)
theorem DvAll.ext {H H' : Hp} (s : ExtN H H') : ∀ {vs : List V} {ds : List PyData}, DvAll H vs ds → DvAll H' vs ds
  | _, _, .nil => .nil
  | _, _, .cons a b => .cons (Dv.ext s a) (DvAll.ext s b)
theorem DvKv.ext {H H' : Hp} (s : ExtN H H') : ∀ {kvs : List (Key × V)} {ds : List (PyData × PyData)}, DvKv H kvs ds → DvKv H' kvs ds
  | _, _, .nil => .nil
  | _, _, .cons a b => .cons (Dv.ext s a) (DvKv.ext s b)
end
end Tc
/-! Several clauses, each of them with a name: except A as n .. except B as n. -/
namespace Tc
open PySem PySem.Spec PyProof.Rows L2
end Tc
/-! List comprehensions of any number of clauses, clause by clause. -/
namespace Tc
open PySem PySem.Spec PyProof.Rows L2
/-- the next clause's loop -/
def restM (e : Expr) (i : Expr) (k : Nat) (acc : Value) (env : Env) : Sem Unit := do
  let x ← eval i env
  standAt i.pos
  let y ← foldedSetIterable i env x
  let _ ← runOwn (.compStart e k (← holding [y] (pyIter y)) acc env) env
/-- the new element -/
def restL (elt : Expr) (acc : Value) (env : Env) : Sem Unit := do
  let _ ← call (.builtin "list.append") [acc, ← eval elt env]
/-- a turn of a loop, with what stands behind its tests -/
def turnOf (e : Expr) (k : Nat) (t i : Expr) (ifs : List Expr) (rest : Sem Unit) (it acc : Value) (env : Env) : Sem Fin := do
  standAt i.pos
  match ← pyNext it with
  | none => pure (.done .next)
  | some v =>
    letOwnedTupleGo t it v
    assign t env v
    let mut ok := true
    for c in ifs do
      if ok then ok ← isTrue c env (eval c env)
    if ok then
      rest
    again (.compLoop e k it acc env)
section
variable {elt : Expr} {gens : List Comprehension} {scope : Scope} {pos : Pos} {k : Nat} {it acc : Value} {env : Env} {t i t1 i1 : Expr} {ifs ifs1 : List Expr}
theorem turn_mid (hk : gens[k]? = some ⟨t, i, ifs, 0⟩) (hk1 : gens[k + 1]? = some ⟨t1, i1, ifs1, 0⟩) :
    compTurn (.ListComp elt gens scope pos) k it acc env = turnOf (.ListComp elt gens scope pos) k t i ifs (restM (.ListComp elt gens scope pos) i1 (k + 1) acc env) it acc env := by
  unfold compTurn turnOf restM
  simp only [hk, hk1, bind_assoc]
  rfl
theorem turn_last (hk : gens[k]? = some ⟨t, i, ifs, 0⟩) (hk1 : gens[k + 1]? = none) :
    compTurn (.ListComp elt gens scope pos) k it acc env = turnOf (.ListComp elt gens scope pos) k t i ifs (restL elt acc env) it acc env := by
  unfold compTurn turnOf restL
  simp only [hk, hk1]
  rfl
variable {prog : Program} {w : World} {A : Around} {R : Result → Shared → Prop} {s : Shared} {rest : Sem Unit}
/-- a loop's rule, nothing raised in it -/
theorem loop_gen (hc : compTurn (.ListComp elt gens scope pos) k it acc env = turnOf (.ListComp elt gens scope pos) k t i ifs rest it acc env) (J : Nat → Shared → Prop)
    (turn : ∀ n s, J n s → wpAny (model prog w) A (pyNext it) (fun r s1 => match r with
      | none => R (.ok .next) s1
      | some v => wpAny (model prog w) A (letOwnedTupleGo t it v) (fun _ s2 => wpAny (model prog w) A (assign t env v) (fun _ s3 =>
          wpAny (model prog w) A (forIn ifs true fun c r => if r = true then do let ok ← isTrue c env (eval c env); pure (ForInStep.yield ok) else pure (ForInStep.yield r))
            (fun ok s4 => if ok = true then wpAny (model prog w) A rest (fun _ s5 => ∃ m, m < n ∧ J m s5) (fun _ _ => False) s4 else ∃ m, m < n ∧ J m s4) (fun _ _ => False) s3) (fun _ _ => False) s2) (fun _ _ => False) s1) (fun _ _ => False) s)
    (n : Nat) (h : J n s) : codeAny (model prog w) A (.compLoop (.ListComp elt gens scope pos) k it acc env) R s := by
  refine codeAny_loop rfl J (fun n s hJ => ?_) n h
  show wpAny (model prog w) A (Sem.onRaise (compTurn (.ListComp elt gens scope pos) k it acc env) fun x => do noteFrame x env; theTreesLotGoes x) _ _ s
  rw [hc]
  refine wpAny_noted ?_
  unfold turnOf
  refine wpAny_bind (wpAny_standAt (wpAny_bind (thnF (turn n s hJ) fun r s1 h1 => ?_)))
  match r, h1 with
  | none, h1 => exact wpAny_pure h1
  | some v, h1 =>
    refine wpAny_bind (thnF h1 fun _ s2 h2 => wpAny_bind (thnF h2 fun _ s3 h3 => wpAny_bind (thnF h3 fun ok s4 h4 => ?_)))
    cases ok with
    | false => exact wpAny_pure ⟨rfl, h4⟩
    | true => exact wpAny_bind (thnF h4 fun _ s5 h5 => wpAny_pure ⟨rfl, h5⟩)
theorem restM_ok {e : Expr} {Q : Unit → Shared → Prop} (hs : ∀ x, foldedSetIterable i env x = pure x)
    (h : wpAny (model prog w) A (eval i env) (fun x s1 => wpAny (model prog w) A (pyIter x) (fun it s2 => codeAny (model prog w) A (.compStart e k it acc env) (fun r s' => match r with
      | .ok _ => Q () s'
      | .error _ => False) s2) (fun _ _ => False) s1) (fun _ _ => False) s) : wpAny (model prog w) A (restM e i k acc env) Q (fun _ _ => False) s := by
  unfold restM
  refine wpAny_bind (thnF h fun x s1 h1 => wpAny_bind (wpAny_standAt (wpAny_bind (wpAny_of_eq (hs x) (wpAny_bind (wpAny_holding (thnF h1 fun it s2 h2 => ?_)))))))
  refine wpAny_bind (wpAny_runOwn ?_)
  rw [Around.mark_none]
  refine codeAny_mono h2 fun r s' hr => ?_
  match r, hr with
  | .ok f, hr =>
    first
      | exact wpAny_pure hr
      | exact wpAny_bind (wpAny_pure (wpAny_pure hr))
      | exact hr
  | .error e, hr => exact hr.elim
/-- a later clause's start -/
theorem start_ok (hk : gens[k]? = some ⟨t, i, ifs, 0⟩) (h0 : codeAny (model prog w) A (.compLoop (.ListComp elt gens scope pos) k it acc env) R s)
    (h : wpAny (model prog w) A (pyIter it) (fun it' s' => codeAny (model prog w) A (.compLoop (.ListComp elt gens scope pos) k it' acc env) R s') (fun _ _ => False) s) :
    codeAny (model prog w) A (.compStart (.ListComp elt gens scope pos) k it acc env) R s := by
  refine codeAny_of_tree ?_
  show wpAny _ _ (Sem.onRaise (compStart (.ListComp elt gens scope pos) k it acc env) fun x => do noteFrame x env; standAt theWindowsPlace) _ _ s
  refine wpAny_notedAt ?_
  unfold compStart
  have hcl : (clausesOf (.ListComp elt gens scope pos))[k]? = some ⟨t, i, ifs, 0⟩ := hk
  rw [hcl]
  show wpAny _ _ (ask >>= _) _ _ s
  refine wpAny_bind (wpAny_askSetting (wpAny_ite ?_))
  split
  · first
      | exact wpAny_pure (And.intro rfl h0)
      | exact wpAny_bind (wpAny_pure (wpAny_pure (And.intro rfl h0)))
  · refine wpAny_bind (wpAny_rule ?_)
    show wpAny _ _ (standAt i.pos >>= _) _ _ s
    exact wpAny_bind (wpAny_standAt (wpAny_bind (thnF h fun it' s' h' => wpAny_pure (And.intro rfl h'))))
end
/-- what a clause's body does, from slots whose block's names are known or wiped -/
structure Cl (Y : Cx) (rest : Sem Unit) (vs : List Nat) (u : L2.St → Hp → (Hp → Prop) → Prop) : Prop where
  run : ∀ (pins : List (Addr × Obj)) (s : Shared) (σ : L2.St) (H : Hp) (N : Hp → Prop), Inv Y pins σ H s → u σ H N → wpAny (model Y.prog Y.w) Y.A rest (fun _ s' => ∃ H', Inv Y pins (wipe σ vs) H' s' ∧ N H') (fun _ _ => False) s
def tEnd (D : Addr) (te : TE) : L2.St → Hp → (Hp → Prop) → Prop := fun σ H N => te σ H fun y H1 => ∃ acc, H1 D = some (.lst acc) ∧ acc.length < sizeLine ∧ N (upd H1 D (.lst (acc ++ [y])))
/-- a later clause: its source, its target, its tests, what stands behind -/
def tIn (wi : TI) (g : TG) (tt : TT) (u : L2.St → Hp → (Hp → Prop) → Prop) (vs : List Nat) : L2.St → Hp → (Hp → Prop) → Prop := fun σ H N => wi σ H fun J H1 => ∃ W : Nat → Nat → Hp → Prop, (∃ m, W 0 m H1) ∧ ∀ i m H, W i m H →
  (J.stop i H ∧ N H) ∨ (J.go i H ∧ ∃ N1 : Hp → Prop, (∀ H', N1 H' → ∃ m', m' < m ∧ W (i + 1) m' H') ∧ ∀ x H', J.yld i H x H' → g x (wipe σ vs) H' fun σ2 H2 => wipe σ2 vs = wipe σ vs ∧ tt σ2 H2 fun b H3 => if b = true then u σ2 H3 N1 else N1 H3)
section
variable {Y : Cx} {elt : Expr} {gens : List Comprehension} {scope : Scope} {pos : Pos} {k : Nat} {D : Addr} {t i : Expr} {ifs : List Expr} {rest : Sem Unit} {vs vs1 : List Nat} {u : L2.St → Hp → (Hp → Prop) → Prop} {te : TE} {wi : TI} {g : TG} {tt : TT}
theorem cl_last (hx : Y.xe = fun _ _ => False) (pe : PE Y elt te) : Cl Y (restL elt (.ref D) Y.env) [] (tEnd D te) := by
  refine ⟨fun pins s σ H N I h => ?_⟩
  have r := pe.run pins s σ H _ I h
  rw [hx] at r
  unfold restL
  refine wpAny_bind (thnF r fun z s1 ⟨y, H1, I1, r1, acc, hD, hz, n⟩ => ?_)
  exact wpAny_bind (app_ok (X := Y) I1 hD hz r1 fun s2 I2 => wpAny_pure ⟨_, I2, n⟩)
theorem wipe_in {σ σ2 : L2.St} (h : wipe σ2 vs = wipe σ vs) : (wipe σ vs).length = σ2.length ∧ ∀ (j : Nat) v, (wipe σ vs)[j]? = some (some v) → σ2[j]? = some (some v) ∧ j ∉ vs := by
  refine ⟨by rw [← h, wipe_length], fun j v e => ?_⟩
  rw [← h] at e
  exact wipe_some e
theorem cl_in (hcalm : Y.calm = true) (hx : Y.xe = fun _ _ => False) (hk : gens[k]? = some ⟨t, i, ifs, 0⟩) (hs : ∀ x, foldedSetIterable i Y.env x = pure x) (hv : ∀ j ∈ vs1, j ∈ vs)
    (hc : ∀ it, compTurn (.ListComp elt gens scope pos) k it (.ref D) Y.env = turnOf (.ListComp elt gens scope pos) k t i ifs rest it (.ref D) Y.env)
    (pi : PI Y t i wi) (pg : PG Y t g) (pt : PTs Y ifs tt) (c : Cl Y rest vs1 u) : Cl Y (restM (.ListComp elt gens scope pos) i k (.ref D) Y.env) vs (tIn wi g tt u vs) := by
  refine ⟨fun pins s σ H N I h => ?_⟩
  have r := pi.run pins s σ H _ I h
  rw [hx] at r
  refine restM_ok hs (thnF r fun xv s1 h1 => thnF h1 fun itv s2 h2 => ?_)
  obtain ⟨it, fp, tn, J, H2, e, I2, T, st2, f2, W, ⟨m0, w0⟩, turn⟩ := h2
  subst e
  have stat : ∀ {H' : Hp}, (∀ b ∈ fp, H' b = none) → ∀ b ∈ fp, FpOk Y pins H' b := fun hn b hb => ⟨hn b hb, (f2 b hb).2⟩
  have loop : codeAny (model Y.prog Y.w) Y.A (.compLoop (.ListComp elt gens scope pos) k (.ref it) (.ref D) Y.env) (fun r s' => match r with
      | .ok _ => ∃ H', Inv Y pins (wipe σ vs) H' s' ∧ N H'
      | .error _ => False) s2 := by
    refine loop_gen (hc _) (fun n s' => ∃ j H', Inv Y pins (wipe σ vs) H' s' ∧ tn j s'.heap ∧ (∀ b ∈ fp, H' b = none) ∧ W j n H') ?_ m0 ⟨0, H2, I2.weak (wipe_length _ _) (fun j v e => (wipe_some e).1), st2, fun b hb => (f2 b hb).1, w0⟩
    rintro n s5 ⟨j, H5, I5, st5, n5, w5⟩
    rcases turn j n H5 w5 with ⟨stop, nx⟩ | ⟨go, N1, hN1, step⟩
    · refine thnF (T.done Y rfl rfl rfl hcalm j pins s5 (wipe σ vs) H5 (fun _ _ => False) I5 (stat n5) st5 stop) fun r s6 hr => ?_
      obtain ⟨rfl, I6⟩ := hr
      exact ⟨H5, I6, nx⟩
    · refine thnF (T.item Y rfl rfl rfl hcalm j pins s5 (wipe σ vs) H5 (fun _ _ => False) I5 (stat n5) st5 go) fun r s6 hr => ?_
      obtain ⟨z, rfl, h6⟩ := hr
      refine thnF h6 fun _ s7 h7 => ?_
      obtain ⟨x, H7, I7, r7, y7, st7, n7⟩ := h7
      have J7 := I7.pinned (stat n7) (T.obj _ _ st7)
      have a1 := pg.run _ s7 (wipe σ vs) H7 x z _ J7 r7 (step x H7 y7)
      rw [hx] at a1
      refine thnF a1 fun _ s8 h8 => ?_
      obtain ⟨σ8, H8, I8, hw8, q8⟩ := h8
      obtain ⟨hl8, hk8⟩ := wipe_in hw8
      have a2 := pt.run _ s8 σ8 H8 _ I8 q8
      rw [hx] at a2
      refine thnF a2 fun b s9 h9 => ?_
      obtain ⟨H9, I9, q9⟩ := h9
      have fin : ∀ {σ' : L2.St} {s' : Shared} {H' : Hp}, Inv Y (pins ++ pinsAt fp s7.heap) σ' H' s' → (wipe σ vs).length = σ'.length → (∀ (j : Nat) v, (wipe σ vs)[j]? = some (some v) → σ'[j]? = some (some v)) → N1 H' →
          ∃ m, m < n ∧ ∃ j H', Inv Y pins (wipe σ vs) H' s' ∧ tn j s'.heap ∧ (∀ b ∈ fp, H' b = none) ∧ W j m H' := fun {σ' s' H'} I' hl hk n1 => by
        obtain ⟨m', hm, w'⟩ := hN1 H' n1
        have held : ∀ b ∈ fp, ∀ o, s7.heap.get? b = some o → s'.heap.get? b = some o ∧ H' b = none := fun b hb o e => by
          have z := I'.pin (b, o) (List.mem_append_right _ (List.mem_append_right _ (mem_pinsAt hb e)))
          exact ⟨z.1, z.2.1⟩
        refine ⟨m', hm, j + 1, H', I'.unpinned.weak hl hk, T.keep _ _ _ st7 fun b hb o e => (held b hb o e).1, fun b hb => ?_, w'⟩
        obtain ⟨o, e, _⟩ := T.obj _ _ st7 b hb
        exact (held b hb o e).2
      cases b with
      | false => exact fin I9 hl8 (fun j v e => (hk8 j v e).1) q9
      | true =>
        refine thnF (c.run _ s9 σ8 H9 N1 I9 q9) fun _ s10 h10 => ?_
        obtain ⟨H10, I10, n10⟩ := h10
        refine fin I10 (hl8.trans (wipe_length _ _).symm) (fun j v e => ?_) n10
        obtain ⟨e1, e2⟩ := hk8 j v e
        rw [wipe_out fun z => e2 (hv j z)]
        exact e1
  exact start_ok hk loop (T.self Y.A 0 _ _ _ st2 loop)
end
/-- a comprehension, its first clause's body by u -/
def tLcN (wi : TI) (g : TG) (tt : TT) (u : Addr → L2.St → Hp → (Hp → Prop) → Prop) (vs : List Nat) : TE := fun σ H Q => wi σ H fun J H1 => ∀ D, H1 D = none → ∃ W : Nat → Nat → Hp → Prop, (∃ m, W 0 m (upd H1 D (.lst []))) ∧ ∀ i m H, W i m H →
  (J.stop i H ∧ Q (.ref D) H) ∨ (J.go i H ∧ ∃ N1 : Hp → Prop, (∀ H', N1 H' → ∃ m', m' < m ∧ W (i + 1) m' H') ∧ ∀ x H', J.yld i H x H' → g x (wipe σ vs) H' fun σ2 H2 => wipe σ2 vs = wipe σ vs ∧ tt σ2 H2 fun b H3 => if b = true then u D σ2 H3 N1 else N1 H3)
section
variable {X : Cx} {elt : Expr} {gs : List Comprehension} {scope : Scope} {own : List (Str × Nat)} {pos : Pos} {t i : Expr} {ifs : List Expr} {rest : Addr → Env → Sem Unit} {vs1 : List Nat} {u : Addr → L2.St → Hp → (Hp → Prop) → Prop} {wi : TI} {g : TG} {tt : TT}
theorem lcN_core {pins : List (Addr × Obj)} {s : Shared} {σ : L2.St} {H : Hp} {Q : VK} {pos' : Pos} {use : Option (Value → Sem Unit)} {Qf : Value → Shared → Prop} (hcalm : X.calm = true) (hN : X.N.Nodup) (pi : PI X t i wi) (ok : BlkOk X.N X.env.scope scope own) (hv : ∀ j ∈ vs1, j ∈ own.map (·.2))
    (hc : ∀ it D env, compTurn (.ListComp elt (⟨t, i, ifs, 0⟩ :: gs) scope pos) 0 it (.ref D) env = turnOf (.ListComp elt (⟨t, i, ifs, 0⟩ :: gs) scope pos) 0 t i ifs (rest D env) it (.ref D) env)
    (pgs : ∀ (s : Shared) (H : Hp) (C : Addr) (cl : List (Str × Addr)) (fp : List Addr), PG (X.blk s H scope (compEnvC scope cl C X.env) fp) t g)
    (pts : ∀ (s : Shared) (H : Hp) (C : Addr) (cl : List (Str × Addr)) (fp : List Addr), PTs (X.blk s H scope (compEnvC scope cl C X.env) fp) ifs tt)
    (cls : ∀ (s : Shared) (H : Hp) (C : Addr) (cl : List (Str × Addr)) (fp : List Addr) (D : Addr), Inv X pins σ H s → (∀ b ∈ fp, FpOk X pins H b) → Cl (X.blk s H scope (compEnvC scope cl C X.env) fp) (rest D (compEnvC scope cl C X.env)) vs1 (u D))
    (hs : ∀ x, foldedSetIterable i X.env x = pure x) (I : Inv X pins σ H s) (h : tLcN wi g tt u (own.map (·.2)) σ H Q)
    (back : ∀ D C s' m H', Inv X pins σ H' s' → Q (.ref D) H' → s'.heap.Ns C m → FpOk X pins H' C → compPost (model X.prog X.w) X.A X.xe use Qf (.ref D) C (.ok .next) s') :
    wpAny (model X.prog X.w) X.A (comprehension (.ListComp elt (⟨t, i, ifs, 0⟩ :: gs) scope pos) scope X.env pos' (newList []) false (eval i X.env) use) Qf X.xe s := by
  have cells : ∀ y ∈ scope.names, y.2 = .free → ∃ c, X.env.cells.lookup y.1 = some c := fun y hy e => I.ok.has _ ((ok.free y hy e).elim (fun z => .inl z) fun z => .inr z)
  refine wpAny_comprehension_free (use := use) rfl hs (closure_ok cells) ok.kind (fun y hy e => by rw [ok.uniq y hy, e]) (thn (pi.run pins s σ H _ I h) fun xv s1 h1 => thn h1 fun itv s2 h2 => ?_)
  obtain ⟨it, fp, tn, J, H2, e, I2, T, st2, f2, q⟩ := h2
  subst e
  refine wpAny_newObj_type (newEnv_comp ?_) (by show 0 ≤ sizeLine; decide)
  generalize hD : s2.heap.objs.size = D
  obtain ⟨W, ⟨m0, w0⟩, turn⟩ := q D (I2.hok.fresh (Nat.le_of_eq hD))
  -- its list
  generalize hs3 : ({ s2 with heap := s2.heap.push { cls := .type "list", data := .seq ([] : List Value).toArray } } : Shared) = s3
  have I3 : Inv X pins σ (upd H2 D (.lst [])) s3 := by
    rw [← hs3]
    refine I2.laid (t' := s2.toks) (fun b o e => Heap.get?_push_of_some _ e) (Nat.le_of_eq hD) ⟨Nat.zero_le _, [], 0, .nil, ?_⟩
    rw [← hD]
    exact Heap.get?_push_size _ rfl
  have e3 : s3.heap = s2.heap.push { cls := .type "list", data := .seq ([] : List Value).toArray } := by rw [← hs3]
  have f3 : ∀ b ∈ fp, FpOk X pins (upd H2 D (.lst [])) b ∧ b < s3.heap.objs.size := fun b hb => by
    obtain ⟨o, e, _⟩ := T.obj _ _ st2 b hb
    have lt := Heap.lt_size e
    have ne : b ≠ D := by
      rw [← hD]
      exact Nat.ne_of_lt lt
    exact ⟨⟨(upd_ne ne).trans (f2 b hb).1, (f2 b hb).2⟩, by rw [e3, Heap.size_push]; exact Nat.lt_succ_of_lt lt⟩
  have st3 : tn 0 s3.heap := T.keep _ _ _ st2 fun b _ o e => by
    rw [e3]
    exact Heap.get?_push_of_some _ e
  have I4 := block_start I3 ok hN f3
  have pg := pgs s3 (upd H2 D (.lst [])) s3.heap.objs.size (cellsFrom (s3.heap.objs.size + 1) scope.names (cloFrom X.env.cells scope.names [])) fp
  have pt := pts s3 (upd H2 D (.lst [])) s3.heap.objs.size (cellsFrom (s3.heap.objs.size + 1) scope.names (cloFrom X.env.cells scope.names [])) fp
  have cl := cls s3 (upd H2 D (.lst [])) s3.heap.objs.size (cellsFrom (s3.heap.objs.size + 1) scope.names (cloFrom X.env.cells scope.names [])) fp D I3 (fun b hb => (f3 b hb).1)
  show codeAny _ _ (.compStart _ 0 (.ref it) (.ref D) (compEnvC scope (cellsFrom (s3.heap.objs.size + 1) scope.names (cloFrom X.env.cells scope.names [])) s3.heap.objs.size X.env)) (compPost (model X.prog X.w) X.A X.xe use Qf (.ref D) s3.heap.objs.size) { s3 with heap := pushCells (s3.heap.push { cls := .type "dict", data := .dict #[] }) scope.names }
  have nfp : ∀ b ∈ fp, (upd H2 D (.lst [])) b = none := fun b hb => (f3 b hb).1.1
  generalize hce : compEnvC scope (cellsFrom (s3.heap.objs.size + 1) scope.names (cloFrom X.env.cells scope.names [])) s3.heap.objs.size X.env = ce at I4 pg pt cl ⊢
  have cL : ce.locals = s3.heap.objs.size := by
    subst hce
    rfl
  generalize hH3 : upd H2 D (.lst []) = H3 at I3 I4 pg pt cl w0 nfp f3
  generalize hs4 : ({ s3 with heap := pushCells (s3.heap.push { cls := .type "dict", data := .dict #[] }) scope.names } : Shared) = s4 at I4 ⊢
  have st4 : tn 0 s4.heap := T.keep _ _ _ st3 fun b _ o e => by
    rw [← hs4]
    exact pushCells_keeps _ _ _ _ (Heap.get?_push_of_some _ e)
  have stat : ∀ {σ' : L2.St} {H' : Hp} {s' : Shared}, Inv (X.blk s3 H3 scope ce fp) [] σ' H' s' → (∀ b ∈ fp, H' b = none) → ∀ b ∈ fp, FpOk (X.blk s3 H3 scope ce fp) [] H' b := fun {σ' H' s'} I' hn b hb => by
    have z := I'.ok.exf b hb
    exact ⟨hn b hb, z.1, I'.ok.exfs b hb, .inl hb, fun x c e => z.2 x c e, fun p hp => by cases hp⟩
  have loop : codeAny (model X.prog X.w) X.A (.compLoop (.ListComp elt (⟨t, i, ifs, 0⟩ :: gs) scope pos) 0 (.ref it) (.ref D) ce) (compPost (model X.prog X.w) X.A X.xe use Qf (.ref D) s3.heap.objs.size) s4 := by
    refine loop_gen (hc _ _ _) (fun n s' => ∃ j H', Inv (X.blk s3 H3 scope ce fp) [] (wipe σ (own.map (·.2))) H' s' ∧ tn j s'.heap ∧ (∀ b ∈ fp, H' b = none) ∧ W j n H') ?_ m0 ⟨0, H3, I4, st4, nfp, w0⟩
    rintro n s5 ⟨j, H5, I5, st5, n5, w5⟩
    rcases turn j n H5 w5 with ⟨stop, qq⟩ | ⟨go, N1, hN1, step⟩
    · refine thnF (T.done (X.blk s3 H3 scope ce fp) rfl rfl rfl hcalm j [] s5 _ H5 (fun _ _ => False) I5 (stat I5 n5) st5 stop) fun r s6 hr => ?_
      obtain ⟨rfl, I6⟩ := hr
      -- out of the block
      have I7 : Inv X pins σ H5 s6 := I3.call' (ch := fp) I6.os I6.base I6.hok I6.bare fun b hb => by
        have z := (f3 b hb).1
        exact ⟨z.2.2.2.1, z.2.1, z.2.2.2.2.1, z.2.2.2.2.2⟩
      have nC : H5 s3.heap.objs.size = none := by
        rw [← cL]
        exact I6.free
      obtain ⟨m, hn, _⟩ := I6.loc
      have hn : s6.heap.Ns s3.heap.objs.size m := by
        rw [← cL]
        exact hn
      exact back D s3.heap.objs.size s6 m H5 I7 qq hn (I3.fpOk (Nat.le_refl _) nC)
    · refine thnF (T.item (X.blk s3 H3 scope ce fp) rfl rfl rfl hcalm j [] s5 _ H5 (fun _ _ => False) I5 (stat I5 n5) st5 go) fun r s6 hr => ?_
      obtain ⟨z, rfl, h6⟩ := hr
      refine thnF h6 fun _ s7 h7 => ?_
      obtain ⟨x, H7, I7, r7, y7, st7, n7⟩ := h7
      have J7 := I7.pinned (stat I7 n7) (T.obj _ _ st7)
      refine thnF (pg.run _ s7 _ H7 x z _ J7 r7 (step x H7 y7)) fun _ s8 h8 => ?_
      obtain ⟨σ8, H8, I8, hw8, q8⟩ := h8
      obtain ⟨hl8, hk8⟩ := wipe_in hw8
      refine thnF (pt.run _ s8 σ8 H8 _ I8 q8) fun b s9 h9 => ?_
      obtain ⟨H9, I9, q9⟩ := h9
      have fin : ∀ {σ' : L2.St} {s' : Shared} {H' : Hp}, Inv (X.blk s3 H3 scope ce fp) ([] ++ pinsAt fp s7.heap) σ' H' s' → (wipe σ (own.map (·.2))).length = σ'.length → (∀ (j : Nat) v, (wipe σ (own.map (·.2)))[j]? = some (some v) → σ'[j]? = some (some v)) → N1 H' →
          ∃ m, m < n ∧ ∃ j H', Inv (X.blk s3 H3 scope ce fp) [] (wipe σ (own.map (·.2))) H' s' ∧ tn j s'.heap ∧ (∀ b ∈ fp, H' b = none) ∧ W j m H' := fun {σ' s' H'} I' hl hk n1 => by
        obtain ⟨m', hm, w'⟩ := hN1 H' n1
        have held : ∀ b ∈ fp, ∀ o, s7.heap.get? b = some o → s'.heap.get? b = some o ∧ H' b = none := fun b hb o e => by
          have z := I'.pin (b, o) (List.mem_append_right _ (List.mem_append_right _ (mem_pinsAt hb e)))
          exact ⟨z.1, z.2.1⟩
        refine ⟨m', hm, j + 1, H', (I'.unpinned (pins := [])).weak hl hk, T.keep _ _ _ st7 fun b hb o e => (held b hb o e).1, fun b hb => ?_, w'⟩
        obtain ⟨o, e, _⟩ := T.obj _ _ st7 b hb
        exact (held b hb o e).2
      cases b with
      | false => exact fin I9 hl8 (fun j v e => (hk8 j v e).1) q9
      | true =>
        refine thnF (cl.run _ s9 σ8 H9 N1 I9 q9) fun _ s10 h10 => ?_
        obtain ⟨H10, I10, n10⟩ := h10
        refine fin I10 (hl8.trans (wipe_length _ _).symm) (fun j v e => ?_) n10
        obtain ⟨e1, e2⟩ := hk8 j v e
        rw [wipe_out fun z => e2 (hv j z)]
        exact e1
  exact codeAny_compStart_list loop (T.self X.A 0 _ _ _ st4 loop)
theorem pe_lcN (hcalm : X.calm = true) (hN : X.N.Nodup) (pi : PI X t i wi) (ok : BlkOk X.N X.env.scope scope own) (hv : ∀ j ∈ vs1, j ∈ own.map (·.2))
    (hc : ∀ it D env, compTurn (.ListComp elt (⟨t, i, ifs, 0⟩ :: gs) scope pos) 0 it (.ref D) env = turnOf (.ListComp elt (⟨t, i, ifs, 0⟩ :: gs) scope pos) 0 t i ifs (rest D env) it (.ref D) env)
    (pgs : ∀ (s : Shared) (H : Hp) (C : Addr) (cl : List (Str × Addr)) (fp : List Addr), PG (X.blk s H scope (compEnvC scope cl C X.env) fp) t g)
    (pts : ∀ (s : Shared) (H : Hp) (C : Addr) (cl : List (Str × Addr)) (fp : List Addr), PTs (X.blk s H scope (compEnvC scope cl C X.env) fp) ifs tt)
    (cls : ∀ (s : Shared) (H : Hp) (C : Addr) (cl : List (Str × Addr)) (fp : List Addr) (D : Addr), Cl (X.blk s H scope (compEnvC scope cl C X.env) fp) (rest D (compEnvC scope cl C X.env)) vs1 (u D))
    (hs : ∀ x, foldedSetIterable i X.env x = pure x := by intro _; rfl) : PE X (.ListComp elt (⟨t, i, ifs, 0⟩ :: gs) scope pos) (tLcN wi g tt u (own.map (·.2))) := by
  refine ⟨fun pins s σ H Q I h => ?_⟩
  rw [eval_ListComp]
  refine lcN_core (use := none) hcalm hN pi ok hv hc pgs pts (fun s H C cl fp D _ _ => cls s H C cl fp D) hs I h fun D C s' m H' J q hn f => ⟨m, hn, fun h2 sb => ?_⟩
  have z := J.turned (t' := s'.toks) (fun b o hb e => (sb.2 b hb).trans e) f.1 f.2.1 f.2.2.2.1 f.2.2.2.2.1 f.2.2.2.2.2
  exact ⟨.ref D, H', z, rfl, q⟩
/-! what a block's element does may speak of the state in which the block starts -/
variable {uI : L2.St → Addr → L2.St → Hp → (Hp → Prop) → Prop}
end
end Tc
namespace Tc
open PySem PySem.Spec PyProof.Rows L2
section
variable {X : Cx}
/-- a short text, so many times -/
theorem op_mul_str : OpR X (binaryOp .Mult) (fun x y H Q => ∃ (i : Str) (k : Int), x = .str i ∧ y = .int k ∧ i.length ≤ 16 ∧ -(2 ^ 63) ≤ k ∧ k ≤ 1048576 ∧ Q (.str (Txt.mul i k)) H) := by
  intro pins s σ H x y v u Q I rx ry h
  obtain ⟨i, k, rfl, rfl, h1, h2, h3, q⟩ := h
  obtain ⟨t, rfl⟩ := rx
  obtain ⟨t', rfl⟩ := ry
  exact PySem.W.KXi.mul rfl h1 h2 h3 fun t' k' _ _ => ⟨.str (Txt.mul i k), H, I.tok _, ⟨_, rfl⟩, q⟩
variable {CX : CXT} {k : Nat} {ps : List Str} {sp : Sp} {E : XK} {x : Str} {p pos : Pos}
end
end Tc
/-! Programs on data: what a piece of the program does, told of data alone; the heap is kept by the rules. -/
namespace Px
open PySem PySem.Spec PyProof.Rows L2 Tc
/-! ### the weakest readings -/
section
variable (X : Cx)
@[irreducible] def teW (e : Expr) : TE := fun σ H Q => ∀ (pins : List (Addr × Obj)) (s : Shared), Inv X pins σ H s → wpAny (model X.prog X.w) X.A (eval e X.env) (EP X pins σ Q) X.xe s
@[irreducible] def ttW (e : Expr) : TT := fun σ H Q => ∀ (pins : List (Addr × Obj)) (s : Shared), Inv X pins σ H s → wpAny (model X.prog X.w) X.A (isTrue e X.env (eval e X.env)) (TP X pins σ Q) X.xe s
@[irreducible] def twW (e : Expr) : TT := fun σ H Q => ∀ (whole : Sem Value) (pins : List (Addr × Obj)) (s : Shared), Inv X pins σ H s → wpAny (model X.prog X.w) X.A (isTrue e X.env whole) (TP X pins σ Q) X.xe s
@[irreducible] def taW (es : List Expr) : TA := fun σ H Q => ∀ (pos : Pos) (pins : List (Addr × Obj)) (s : Shared), Inv X pins σ H s → wpAny (model X.prog X.w) X.A (spliced (backTo pos (starEach es X.env))) (AP X pins σ Q) X.xe s
@[irreducible] def tsW (st : Stmt) : TS := fun D σ H => ∀ (pins : List (Addr × Obj)) (s : Shared), Inv X pins σ H s → wpAny (model X.prog X.w) X.A (exec st X.env) (SP X pins D) X.xe s
@[irreducible] def tssW (st : List Stmt) : TS := fun D σ H => ∀ (pins : List (Addr × Obj)) (s : Shared), Inv X pins σ H s → wpAny (model X.prog X.w) X.A (execs st X.env) (SP X pins D) X.xe s
variable {X}
theorem teI {e : Expr} {σ : L2.St} {H : Hp} {Q : VK} (h : ∀ (pins : List (Addr × Obj)) (s : Shared), Inv X pins σ H s → wpAny (model X.prog X.w) X.A (eval e X.env) (EP X pins σ Q) X.xe s) : teW X e σ H Q := by unfold teW; exact h
theorem teE {e : Expr} {σ : L2.St} {H : Hp} {Q : VK} (h : teW X e σ H Q) : ∀ (pins : List (Addr × Obj)) (s : Shared), Inv X pins σ H s → wpAny (model X.prog X.w) X.A (eval e X.env) (EP X pins σ Q) X.xe s := by unfold teW at h; exact h
theorem ttI {e : Expr} {σ : L2.St} {H : Hp} {Q : Bool → Hp → Prop} (h : ∀ (pins : List (Addr × Obj)) (s : Shared), Inv X pins σ H s → wpAny (model X.prog X.w) X.A (isTrue e X.env (eval e X.env)) (TP X pins σ Q) X.xe s) : ttW X e σ H Q := by unfold ttW; exact h
theorem ttE {e : Expr} {σ : L2.St} {H : Hp} {Q : Bool → Hp → Prop} (h : ttW X e σ H Q) : ∀ (pins : List (Addr × Obj)) (s : Shared), Inv X pins σ H s → wpAny (model X.prog X.w) X.A (isTrue e X.env (eval e X.env)) (TP X pins σ Q) X.xe s := by unfold ttW at h; exact h
theorem twI {e : Expr} {σ : L2.St} {H : Hp} {Q : Bool → Hp → Prop} (h : ∀ (whole : Sem Value) (pins : List (Addr × Obj)) (s : Shared), Inv X pins σ H s → wpAny (model X.prog X.w) X.A (isTrue e X.env whole) (TP X pins σ Q) X.xe s) : twW X e σ H Q := by unfold twW; exact h
theorem twE {e : Expr} {σ : L2.St} {H : Hp} {Q : Bool → Hp → Prop} (h : twW X e σ H Q) : ∀ (whole : Sem Value) (pins : List (Addr × Obj)) (s : Shared), Inv X pins σ H s → wpAny (model X.prog X.w) X.A (isTrue e X.env whole) (TP X pins σ Q) X.xe s := by unfold twW at h; exact h
theorem taI {es : List Expr} {σ : L2.St} {H : Hp} {Q : List V → Hp → Prop} (h : ∀ (pos : Pos) (pins : List (Addr × Obj)) (s : Shared), Inv X pins σ H s → wpAny (model X.prog X.w) X.A (spliced (backTo pos (starEach es X.env))) (AP X pins σ Q) X.xe s) : taW X es σ H Q := by unfold taW; exact h
theorem taE {es : List Expr} {σ : L2.St} {H : Hp} {Q : List V → Hp → Prop} (h : taW X es σ H Q) : ∀ (pos : Pos) (pins : List (Addr × Obj)) (s : Shared), Inv X pins σ H s → wpAny (model X.prog X.w) X.A (spliced (backTo pos (starEach es X.env))) (AP X pins σ Q) X.xe s := by unfold taW at h; exact h
theorem tsI {st : Stmt} {D : Ends} {σ : L2.St} {H : Hp} (h : ∀ (pins : List (Addr × Obj)) (s : Shared), Inv X pins σ H s → wpAny (model X.prog X.w) X.A (exec st X.env) (SP X pins D) X.xe s) : tsW X st D σ H := by unfold tsW; exact h
theorem tsE {st : Stmt} {D : Ends} {σ : L2.St} {H : Hp} (h : tsW X st D σ H) : ∀ (pins : List (Addr × Obj)) (s : Shared), Inv X pins σ H s → wpAny (model X.prog X.w) X.A (exec st X.env) (SP X pins D) X.xe s := by unfold tsW at h; exact h
theorem tssI {st : List Stmt} {D : Ends} {σ : L2.St} {H : Hp} (h : ∀ (pins : List (Addr × Obj)) (s : Shared), Inv X pins σ H s → wpAny (model X.prog X.w) X.A (execs st X.env) (SP X pins D) X.xe s) : tssW X st D σ H := by unfold tssW; exact h
theorem tssE {st : List Stmt} {D : Ends} {σ : L2.St} {H : Hp} (h : tssW X st D σ H) : ∀ (pins : List (Addr × Obj)) (s : Shared), Inv X pins σ H s → wpAny (model X.prog X.w) X.A (execs st X.env) (SP X pins D) X.xe s := by unfold tssW at h; exact h
theorem pe_W {e : Expr} : PE X e (teW X e) := ⟨fun pins s _ _ _ I h => teE h pins s I⟩
theorem pt_W {e : Expr} : PT X e (ttW X e) := ⟨fun pins s _ _ _ I h => ttE h pins s I⟩
theorem pw_W {e : Expr} : PW X e (twW X e) := ⟨fun w pins s _ _ _ I h => twE h w pins s I⟩
theorem pa_W {es : List Expr} : PA X es (taW X es) := ⟨fun pos pins s _ _ _ I h => taE h pos pins s I⟩
theorem ps_W {st : Stmt} : PS X st (tsW X st) := ⟨fun pins s _ _ _ I h => tsE h pins s I⟩
theorem pss_W {st : List Stmt} : PSs X st (tssW X st) := ⟨fun pins s _ _ _ I h => tssE h pins s I⟩
theorem pe_of {e : Expr} {t : TE} (p : PE X e t) {σ : L2.St} {H : Hp} {Q : VK} (h : t σ H Q) : teW X e σ H Q := teI fun pins s I => p.run pins s σ H Q I h
theorem pt_of {e : Expr} {t : TT} (p : PT X e t) {σ : L2.St} {H : Hp} {Q : Bool → Hp → Prop} (h : t σ H Q) : ttW X e σ H Q := ttI fun pins s I => p.run pins s σ H Q I h
theorem pw_of {e : Expr} {t : TT} (p : PW X e t) {σ : L2.St} {H : Hp} {Q : Bool → Hp → Prop} (h : t σ H Q) : twW X e σ H Q := twI fun w pins s I => p.run w pins s σ H Q I h
theorem pa_of {es : List Expr} {t : TA} (p : PA X es t) {σ : L2.St} {H : Hp} {Q : List V → Hp → Prop} (h : t σ H Q) : taW X es σ H Q := taI fun pos pins s I => p.run pos pins s σ H Q I h
theorem ps_of {st : Stmt} {t : TS} (p : PS X st t) {D : Ends} {σ : L2.St} {H : Hp} (h : t D σ H) : tsW X st D σ H := tsI fun pins s I => p.run pins s σ H D I h
theorem pss_of {st : List Stmt} {t : TS} (p : PSs X st t) {D : Ends} {σ : L2.St} {H : Hp} (h : t D σ H) : tssW X st D σ H := tssI fun pins s I => p.run pins s σ H D I h
theorem star_cons {e : Expr} {es : List Expr} {env : Env} (h : (match e with | .Starred .. => false | _ => true) = true) : starEach (e :: es) env = (false, eval e env) :: starEach es env := by
  cases e <;> first | rfl | cases h
end
/-! ### what the slots hold -/
/-- nothing that is known; data; this very value; a list that no other slot's data has in it -/
inductive Sl where
  | no
  | d (x : PyData)
  | v (x : V)
  | own (a : Addr) (ds : List PyData)
/-- what stood before (fr), and what of it data may lie in (hs) -/
structure Bas where
  fr : Hp
  hs : Hp
  T : List (Addr × Str) := []
/-- it grows, beside what else stood -/
structure Grow (F Hs Hs' : Hp) : Prop where
  same : Same Hs Hs'
  off : ∀ b, Hs b = none → F b ≠ none → Hs' b = none
theorem Grow.refl (F Hs : Hp) : Grow F Hs Hs := ⟨Same.refl _, fun _ h _ => h⟩
theorem Grow.trans {F H1 H2 H3 : Hp} (a : Grow F H1 H2) (b : Grow F H2 H3) : Grow F H1 H3 := ⟨a.same.trans b.same, fun c h f => b.off c (a.off c h f) f⟩
theorem Grow.mono {F G H1 H2 : Hp} (a : Grow F H1 H2) (h : ∀ b, G b ≠ none → F b ≠ none) : Grow G H1 H2 := ⟨a.same, fun c n f => a.off c n (h c f)⟩
def SlOk (F Hs H : Hp) (o : Option (Option V)) : Sl → Prop
  | .no => True
  | .d x => ∃ v, o = some (some v) ∧ Dv Hs v x
  | .v x => o = some (some x)
  | .own a ds => o = some (some (.ref a)) ∧ F a = none ∧ Hs a = none ∧ ∃ vs, H a = some (.lst vs) ∧ DvAll Hs vs ds
/-- the tables of lambdas stand there, and no data is one of them -/
def TbN (T : List (Addr × Str)) (Hs H : Hp) : Prop := LamX.Tabs T H ∧ ∀ p ∈ T, Hs p.1 = none
/-- neither a table of lambdas nor a code -/
def noTb : HO → Bool
  | .tbl _ => false
  | .ext _ => false
  | _ => true
theorem tabs_put {T : List (Addr × Str)} {H H' : Hp} {a : Addr} {u : HO} (h : LamX.Tabs T H) (hv : H a = some u) (nu : noTb u = true) (k : ∀ b u, H b = some u → b ≠ a → H' b = some u) : LamX.Tabs T H' := fun p hp => by
  obtain ⟨ps, h1, h2, h3⟩ := h p hp
  have n1 : p.1 ≠ a := fun z => by rw [z, hv] at h1; cases h1; cases nu
  exact ⟨ps, k _ _ h1 n1, h2, fun pos cv e => by
    obtain ⟨c, e1, e2⟩ := h3 pos cv e
    have n2 : c ≠ a := fun z => by rw [z, hv] at e2; unfold LamX.CodeO at e2; cases e2; cases nu
    exact ⟨c, e1, k _ _ e2 n2⟩⟩
theorem tab_there {T : List (Addr × Str)} {Hs H : Hp} (h : TbN T Hs H) {p : Addr × Str} (hp : p ∈ T) : ∃ ps, H p.1 = some (.tbl ps) := by
  obtain ⟨ps, h1, _⟩ := h.1 p hp
  exact ⟨ps, h1⟩
theorem tabs_same {T : List (Addr × Str)} {Hs H H' : Hp} (h : TbN T Hs H) (s : Same H H') : TbN T Hs H' := ⟨fun p hp => by
  obtain ⟨ps, h1, h2, h3⟩ := h.1 p hp
  exact ⟨ps, s _ _ h1, h2, fun pos cv e => by
    obtain ⟨c, e1, e2⟩ := h3 pos cv e
    exact ⟨c, e1, s _ _ e2⟩⟩, h.2⟩
theorem tabs_new {T : List (Addr × Str)} {Hs H : Hp} {q : Addr} {o o2 : HO} (h : TbN T Hs H) (hq : H q = none) : TbN T (upd Hs q o) (upd H q o2) := ⟨(tabs_same h (Same.new hq)).1, fun p hp => by
  obtain ⟨ps, e⟩ := tab_there h hp
  have n : p.1 ≠ q := fun z => by rw [z, hq] at e; cases e
  rw [upd_ne n]
  exact h.2 p hp⟩
theorem tabs_step {T : List (Addr × Str)} {Hs H Hs' H' : Hp} (h : TbN T Hs H) (s : Same H H') (g : Grow H Hs Hs') : TbN T Hs' H' := ⟨(tabs_same h s).1, fun p hp => by
  obtain ⟨ps, e⟩ := tab_there h hp
  exact g.off _ (h.2 p hp) (by rw [e]; exact fun z => nomatch z)⟩
theorem tabs_fz {T : List (Addr × Str)} {Hs H : Hp} {a : Addr} {ws : List V} {o : HO} (h : TbN T Hs H) (hv : H a = some (.lst ws)) : TbN T (upd Hs a o) H := ⟨h.1, fun p hp => by
  obtain ⟨ps, e⟩ := tab_there h hp
  have n : p.1 ≠ a := fun z => by rw [z, hv] at e; cases e
  rw [upd_ne n]
  exact h.2 p hp⟩
theorem tabs_updT {T : List (Addr × Str)} {Hs H : Hp} {a : Addr} {u o : HO} (h : TbN T Hs H) (hv : H a = some u) (nu : noTb u = true) : TbN T Hs (upd H a o) := ⟨tabs_put h.1 hv nu fun b u e n => (upd_ne n).trans e, h.2⟩
theorem tabs_upd {T : List (Addr × Str)} {Hs H : Hp} {a : Addr} {ws : List V} {o : HO} (h : TbN T Hs H) (hv : H a = some (.lst ws)) : TbN T Hs (upd H a o) := tabs_updT h hv rfl
theorem tabs_pail {T : List (Addr × Str)} {Hs Hs' H H' : Hp} {a : Addr} {ws : List V} (h : TbN T Hs H) (hv : H a = some (.lst ws)) (k : ∀ b u, H b = some u → b ≠ a → H' b = some u) (g : Grow H Hs Hs') : TbN T Hs' H' := ⟨tabs_put h.1 hv rfl k, fun p hp => by
  obtain ⟨ps, e⟩ := tab_there h hp
  exact g.off _ (h.2 p hp) (by rw [e]; exact fun z => nomatch z)⟩
theorem tabs_nil {Hs H : Hp} : TbN [] Hs H := ⟨fun _ h => (nomatch h), fun _ h => (nomatch h)⟩
structure Sx (B : Bas) (Hs : Hp) (σ : L2.St) (H : Hp) (Γ : List Sl) : Prop where
  fr : Same B.fr H
  gr : Grow B.fr B.hs Hs
  sub : Same Hs H
  len : σ.length = Γ.length
  sl : ∀ (i : Nat) (s : Sl), Γ[i]? = some s → SlOk B.fr Hs H σ[i]? s
  ap : ∀ (i j : Nat) (a : Addr) (ds : List PyData) (b : Addr) (es : List PyData), Γ[i]? = some (.own a ds) → Γ[j]? = some (.own b es) → i ≠ j → a ≠ b
  tb : TbN B.T Hs H
section
variable {B : Bas} {Hs : Hp} {σ : L2.St} {H : Hp} {Γ : List Sl}
theorem Sx.dat (S : Sx B Hs σ H Γ) {i : Nat} {x : PyData} (h : Γ[i]? = some (.d x)) : ∃ v, σ[i]? = some (some v) ∧ Dv Hs v x := S.sl i _ h
theorem Sx.val (S : Sx B Hs σ H Γ) {i : Nat} {x : V} (h : Γ[i]? = some (.v x)) : σ[i]? = some (some x) := S.sl i _ h
theorem Sx.lst (S : Sx B Hs σ H Γ) {i : Nat} {a : Addr} {ds : List PyData} (h : Γ[i]? = some (.own a ds)) : σ[i]? = some (some (.ref a)) ∧ B.fr a = none ∧ Hs a = none ∧ ∃ vs, H a = some (.lst vs) ∧ DvAll Hs vs ds := S.sl i _ h
theorem ne_new {H : Hp} {p b : Addr} {o : HO} (h : H p = none) (e : H b = some o) : b ≠ p := fun z => by rw [z, h] at e; cases e
theorem both {Hs H : Hp} {p : Addr} {o : HO} (s : Same Hs H) : Same (upd Hs p o) (upd H p o) := fun b u e => by
  by_cases z : b = p
  · subst z
    rw [upd_same] at e ⊢
    exact e
  · rw [upd_ne z] at e ⊢
    exact s b u e
/-- the slots stay where the data grow and no list of theirs changes -/
theorem SlOk.mono {F Hs Hs' H H' : Hp} {o : Option (Option V)} {s : Sl} (h : SlOk F Hs H o s) (k : Same Hs Hs') (l : ∀ a ds, s = .own a ds → Hs' a = none ∧ H' a = H a) : SlOk F Hs' H' o s := by
  cases s with
  | no => exact trivial
  | d x =>
    obtain ⟨v, e, d⟩ := h
    exact ⟨v, e, d.mono k⟩
  | v x => exact h
  | own a ds =>
    obtain ⟨e, f, n, vs, hv, hd⟩ := h
    obtain ⟨n', e'⟩ := l a ds rfl
    exact ⟨e, f, n', vs, e'.trans hv, hd.mono k⟩
/-- a new object, to be data -/
theorem Sx.new (S : Sx B Hs σ H Γ) {p : Addr} {o : HO} (hp : H p = none) : Same Hs (upd Hs p o) ∧ Sx B (upd Hs p o) σ (upd H p o) Γ := by
  have hsp := S.sub.free hp
  have k : Same Hs (upd Hs p o) := Same.new hsp
  refine ⟨k, fun b u e => (Same.new hp) b u (S.fr b u e), S.gr.trans ⟨k, fun b n f => ?_⟩, both S.sub, S.len, fun i s h => (S.sl i s h).mono k fun a ds e => ?_, S.ap, tabs_new S.tb hp⟩
  · have : b ≠ p := by
      rintro rfl
      cases q : B.fr b with
      | none => exact f q
      | some u => exact nomatch (S.fr b u q).symm.trans hp
    exact (upd_ne this).trans n
  · subst e
    obtain ⟨_, _, n, vs, hv, _⟩ := S.lst h
    have : a ≠ p := ne_new hp hv
    exact ⟨(upd_ne this).trans n, upd_ne this⟩
/-- a new object that is no data (yet) -/
theorem Sx.aside (S : Sx B Hs σ H Γ) {p : Addr} {o : HO} (hp : H p = none) : Sx B Hs σ (upd H p o) Γ := by
  refine ⟨fun b u e => (Same.new hp) b u (S.fr b u e), S.gr, fun b u e => (Same.new hp) b u (S.sub b u e), S.len, fun i s h => (S.sl i s h).mono (Same.refl _) fun a ds e => ?_, S.ap, tabs_same S.tb (Same.new hp)⟩
  subst e
  obtain ⟨_, _, n, vs, hv, _⟩ := S.lst h
  exact ⟨n, upd_ne (ne_new hp hv)⟩
/-- all slots of the heap go on to another one -/
theorem Sx.step (S : Sx B Hs σ H Γ) {Hs' H' : Hp} (k : Grow H Hs Hs') (s : Same H H') (u : Same Hs' H') : Same Hs Hs' ∧ Sx B Hs' σ H' Γ := by
  refine ⟨k.same, S.fr.trans s, S.gr.trans (k.mono fun b f => ?_), u, S.len, fun i x h => (S.sl i x h).mono k.same fun a ds e => ?_, S.ap, tabs_step S.tb s k⟩
  · cases q : B.fr b with
    | none => exact absurd q f
    | some o =>
      rw [S.fr b o q]
      exact fun z => nomatch z
  · subst e
    obtain ⟨_, _, n, vs, hv, _⟩ := S.lst h
    exact ⟨k.off a n (by rw [hv]; exact fun z => nomatch z), (s a _ hv).trans hv.symm⟩
theorem get_set {α : Type} {l : List α} {i j : Nat} {x s : α} (h : (l.set i x)[j]? = some s) : (j = i ∧ s = x) ∨ (j ≠ i ∧ l[j]? = some s) := by
  by_cases e : i = j
  · subst e
    rw [List.getElem?_set] at h
    simp only [if_true] at h
    split at h
    · exact .inl ⟨rfl, (Option.some.inj h).symm⟩
    · cases h
  · rw [List.getElem?_set_ne e] at h
    exact .inr ⟨fun z => e z.symm, h⟩
/-- a slot is given data, or what is no list of its own -/
theorem Sx.put (S : Sx B Hs σ H Γ) {i : Nat} {v : V} {s : Sl} (hs : ∀ a ds, s ≠ .own a ds) (hi : i < Γ.length) (h : SlOk B.fr Hs H (some (some v)) s) : Sx B Hs (σ.set i (some v)) H (Γ.set i s) := by
  refine ⟨S.fr, S.gr, S.sub, by rw [List.length_set, List.length_set]; exact S.len, fun j t e => ?_, fun j k a ds b es e1 e2 n => ?_, S.tb⟩
  · rcases get_set e with ⟨rfl, rfl⟩ | ⟨n, e⟩
    · rw [List.getElem?_set_self (by rw [S.len]; exact hi)]
      exact h
    · rw [List.getElem?_set_ne fun z => n z.symm]
      exact S.sl j t e
  · rcases get_set e1 with ⟨rfl, z⟩ | ⟨n1, e1⟩
    · exact absurd z.symm (hs a ds)
    · rcases get_set e2 with ⟨rfl, z⟩ | ⟨n2, e2⟩
      · exact absurd z.symm (hs b es)
      · exact S.ap j k a ds b es e1 e2 n
theorem Sx.putD (S : Sx B Hs σ H Γ) {i : Nat} {v : V} {x : PyData} (hi : i < Γ.length) (h : Dv Hs v x) : Sx B Hs (σ.set i (some v)) H (Γ.set i (.d x)) := S.put (fun _ _ z => nomatch z) hi ⟨v, rfl, h⟩
/-- a list of no other one's -/
def Alone (Γ : List Sl) (a : Addr) : Prop := ∀ (i : Nat) (b : Addr) (es : List PyData), Γ[i]? = some (.own b es) → b ≠ a
/-- a slot is given a list of its own -/
theorem Sx.putL (S : Sx B Hs σ H Γ) {i : Nat} {a : Addr} {vs : List V} {ds : List PyData} (hi : i < Γ.length) (f : B.fr a = none) (n : Hs a = none) (ha : H a = some (.lst vs)) (h : DvAll Hs vs ds) (al : Alone Γ a) : Sx B Hs (σ.set i (some (.ref a))) H (Γ.set i (.own a ds)) := by
  refine ⟨S.fr, S.gr, S.sub, by rw [List.length_set, List.length_set]; exact S.len, fun j t e => ?_, fun j k b es c fs e1 e2 n => ?_, S.tb⟩
  · rcases get_set e with ⟨rfl, rfl⟩ | ⟨n, e⟩
    · rw [List.getElem?_set_self (by rw [S.len]; exact hi)]
      exact ⟨rfl, f, ‹_›, vs, ha, h⟩
    · rw [List.getElem?_set_ne fun z => n z.symm]
      exact S.sl j t e
  · rcases get_set e1 with ⟨rfl, z⟩ | ⟨n1, d1⟩
    · rcases get_set e2 with ⟨rfl, z2⟩ | ⟨n2, d2⟩
      · exact absurd rfl n
      · cases z
        exact fun z => al k c fs d2 z.symm
    · rcases get_set e2 with ⟨rfl, z2⟩ | ⟨n2, d2⟩
      · cases z2
        exact al j b es d1
      · exact S.ap j k b es c fs d1 d2 n
/-- it becomes data, and is no longer changed -/
theorem Sx.freeze (S : Sx B Hs σ H Γ) {i : Nat} {a : Addr} {ds : List PyData} (h : Γ[i]? = some (.own a ds)) : ∃ Hs', Same Hs Hs' ∧ Sx B Hs' σ H (Γ.set i (.d (.list ds))) ∧ Dv Hs' (.ref a) (.list ds) := by
  obtain ⟨e, f, n, vs, hv, hd⟩ := S.lst h
  have k : Same Hs (upd Hs a (.lst vs)) := Same.new n
  have dv : Dv (upd Hs a (.lst vs)) (.ref a) (.list ds) := .lst (.inl upd_same) (hd.mono k)
  refine ⟨upd Hs a (.lst vs), k, ⟨S.fr, S.gr.trans ⟨k, fun b nb fb => ?_⟩, fun b u eb => ?_, by rw [List.length_set]; exact S.len, fun j t ej => ?_, fun j l b es c fs e1 e2 ne => ?_, tabs_fz S.tb hv⟩, dv⟩
  · have : b ≠ a := fun z => fb (z ▸ f)
    exact (upd_ne this).trans nb
  · by_cases z : b = a
    · subst z
      rw [upd_same] at eb
      rw [hv]
      exact eb
    · rw [upd_ne z] at eb
      exact S.sub b u eb
  · rcases get_set ej with ⟨rfl, rfl⟩ | ⟨nj, ej⟩
    · exact ⟨_, e, dv⟩
    · refine (S.sl j t ej).mono k fun b es z => ?_
      subst z
      obtain ⟨_, _, nb, _⟩ := S.lst ej
      exact ⟨(upd_ne (S.ap j i b es a ds ej h nj)).trans nb, rfl⟩
  · rcases get_set e1 with ⟨_, z⟩ | ⟨_, e1⟩
    · cases z
    · rcases get_set e2 with ⟨_, z⟩ | ⟨_, e2⟩
      · cases z
      · exact S.ap j l b es c fs e1 e2 ne
/-- such a list is changed -/
theorem Sx.upd (S : Sx B Hs σ H Γ) {i : Nat} {a : Addr} {ds es : List PyData} {vs : List V} (h : Γ[i]? = some (.own a ds)) (d : DvAll Hs vs es) : Sx B Hs σ (L2.upd H a (.lst vs)) (Γ.set i (.own a es)) := by
  obtain ⟨e, f, n, ws, hv, hd⟩ := S.lst h
  refine ⟨fun b u eb => ?_, S.gr, fun b u eb => ?_, by rw [List.length_set]; exact S.len, fun j t ej => ?_, fun j l b fs c gs e1 e2 ne => ?_, tabs_upd S.tb hv⟩
  · have : b ≠ a := fun z => by rw [z, f] at eb; cases eb
    exact (upd_ne this).trans (S.fr b u eb)
  · have : b ≠ a := fun z => by rw [z, n] at eb; cases eb
    exact (upd_ne this).trans (S.sub b u eb)
  · rcases get_set ej with ⟨rfl, rfl⟩ | ⟨nj, ej⟩
    · exact ⟨e, f, n, vs, upd_same, d⟩
    · refine (S.sl j t ej).mono (Same.refl _) fun b fs z => ?_
      subst z
      obtain ⟨_, _, nb, _⟩ := S.lst ej
      exact ⟨nb, upd_ne (S.ap j i b fs a ds ej h nj)⟩
  · rcases get_set e1 with ⟨rfl, z⟩ | ⟨n1, d1⟩
    · cases z
      rcases get_set e2 with ⟨rfl, z⟩ | ⟨n2, d2⟩
      · exact absurd rfl ne
      · exact (S.ap l j c gs a ds d2 h n2).symm
    · rcases get_set e2 with ⟨rfl, z⟩ | ⟨n2, d2⟩
      · cases z
        exact S.ap j l b fs a ds d1 h n1
      · exact S.ap j l b fs c gs d1 d2 ne
end
end Px
/-! What a piece does to data: the judgements, and the rules of expressions. -/
namespace Px
open PySem PySem.Spec PyProof.Rows L2 Tc
section
variable (B : Bas) (X : Cx)
/-- an expression gives data -/
def GE (e : Expr) (Γ : List Sl) (φ : PyData → List Sl → Prop) : Prop := ∀ (Hs : Hp) (σ : L2.St) (H : Hp) (Q : VK), Sx B Hs σ H Γ →
  (∀ d Γ' v Hs' H', φ d Γ' → Same Hs Hs' → Sx B Hs' σ H' Γ' → Dv Hs' v d → Q v H') → teW X e σ H Q
/-- data to be looked at, a list of one's own too -/
def GB (e : Expr) (Γ : List Sl) (φ : PyData → List Sl → Prop) : Prop := ∀ (Hs : Hp) (σ : L2.St) (H : Hp) (Q : VK), Sx B Hs σ H Γ →
  (∀ d Γ' v Hs' H', φ d Γ' → Same Hs Hs' → Sx B Hs' σ H' Γ' → Dv H' v d → Q v H') → teW X e σ H Q
/-- a new list -/
def GF (e : Expr) (Γ : List Sl) (φ : List PyData → List Sl → Prop) : Prop := ∀ (Hs : Hp) (σ : L2.St) (H : Hp) (Q : VK), Sx B Hs σ H Γ →
  (∀ ds Γ' a vs Hs' H', φ ds Γ' → Same Hs Hs' → Sx B Hs' σ H' Γ' → B.fr a = none → Hs' a = none → Alone Γ' a → H' a = some (.lst vs) → DvAll Hs' vs ds → Q (.ref a) H') → teW X e σ H Q
/-- a list (k) or a tuple, its items data -/
def GQ (k : Bool) (e : Expr) (Γ : List Sl) (φ : List PyData → List Sl → Prop) : Prop := ∀ (Hs : Hp) (σ : L2.St) (H : Hp) (Q : VK), Sx B Hs σ H Γ →
  (∀ ds Γ' a vs Hs' H', φ ds Γ' → Same Hs Hs' → Sx B Hs' σ H' Γ' → (if k = true then SqL X.K H' a vs else SqT X.K H' a vs) → DvAll Hs' vs ds → Q (.ref a) H') → teW X e σ H Q
/-- a test -/
def GT (e : Expr) (Γ : List Sl) (φ : Bool → List Sl → Prop) : Prop := ∀ (Hs : Hp) (σ : L2.St) (H : Hp) (Q : Bool → Hp → Prop), Sx B Hs σ H Γ →
  (∀ b Γ' Hs' H', φ b Γ' → Same Hs Hs' → Sx B Hs' σ H' Γ' → Q b H') → ttW X e σ H Q
def GW (e : Expr) (Γ : List Sl) (φ : Bool → List Sl → Prop) : Prop := ∀ (Hs : Hp) (σ : L2.St) (H : Hp) (Q : Bool → Hp → Prop), Sx B Hs σ H Γ →
  (∀ b Γ' Hs' H', φ b Γ' → Same Hs Hs' → Sx B Hs' σ H' Γ' → Q b H') → twW X e σ H Q
/-- arguments -/
def GA (es : List Expr) (Γ : List Sl) (φ : List PyData → List Sl → Prop) : Prop := ∀ (Hs : Hp) (σ : L2.St) (H : Hp) (Q : List V → Hp → Prop), Sx B Hs σ H Γ →
  (∀ ds Γ' vs Hs' H', φ ds Γ' → Same Hs Hs' → Sx B Hs' σ H' Γ' → DvAll Hs' vs ds → Q vs H') → taW X es σ H Q
end
section
variable {B : Bas} {X : Cx} {Γ : List Sl} {pos : Pos}
/-! ### from one to another -/
theorem gb_of {e : Expr} {φ : PyData → List Sl → Prop} (h : GE B X e Γ φ) : GB B X e Γ φ := fun Hs σ H Q S k => h Hs σ H Q S fun d Γ' v Hs' H' p s T q => k d Γ' v Hs' H' p s T (q.mono T.sub)
theorem ge_ofF {e : Expr} {φ : PyData → List Sl → Prop} (h : GF B X e Γ fun ds Γ' => φ (.list ds) Γ') : GE B X e Γ φ := fun Hs σ H Q S k => h Hs σ H Q S fun ds Γ' a vs Hs' H' p s T f n al ha q => by
  have g : Same Hs' (upd Hs' a (.lst vs)) := Same.new n
  refine k (.list ds) Γ' (.ref a) (upd Hs' a (.lst vs)) H' p (s.trans g) ⟨T.fr, T.gr.trans ⟨g, fun b nb fb => ?_⟩, fun b u eb => ?_, T.len, fun j t ej => (T.sl j t ej).mono g fun b es z => ?_, T.ap, tabs_fz T.tb ha⟩ (.lst (.inl upd_same) (q.mono g))
  · exact (upd_ne fun z => fb (by rw [z]; exact f)).trans nb
  · by_cases z : b = a
    · subst z
      rw [upd_same] at eb
      rw [ha]
      exact eb
    · rw [upd_ne z] at eb
      exact T.sub b u eb
  · subst z
    obtain ⟨_, _, nb, _⟩ := T.lst ej
    exact ⟨(upd_ne (al j b es ej)).trans nb, rfl⟩
theorem rdL {K : PySem.W.Frag} {H : Hp} {a : Addr} {xs : List V} (h : Rd H a (.lst xs)) : SqL K H a xs := .inl h
theorem rdT {K : PySem.W.Frag} {H : Hp} {a : Addr} {xs : List V} (h : Rd H a (.tup xs)) : SqT K H a xs := .inl h
theorem rd_up {H H' : Hp} (s : Same H H') {a : Addr} {u : HO} (h : Rd H a u) : Rd H' a u := by
  rcases h with h | ⟨o, h⟩
  · exact .inl (s _ _ h)
  · exact .inr ⟨o, s _ _ h⟩
/-- data that are a list, a tuple -/
theorem gq_of {k : Bool} {e : Expr} {φ : List PyData → List Sl → Prop} (h : GE B X e Γ fun d Γ' => ∃ ds, d = (if k = true then .list ds else .tuple ds) ∧ φ ds Γ') : GQ B X k e Γ φ := fun Hs σ H Q S g => h Hs σ H Q S fun d Γ' v Hs' H' ⟨ds, e, p⟩ s T q => by
  subst e
  cases k with
  | true =>
    cases q with
    | lst r a => exact g ds Γ' _ _ Hs' H' p s T (rdL (rd_up T.sub r)) a
  | false =>
    cases q with
    | tup r a => exact g ds Γ' _ _ Hs' H' p s T (rdT (rd_up T.sub r)) a
theorem gq_ofF {e : Expr} {φ : List PyData → List Sl → Prop} (h : GF B X e Γ φ) : GQ B X true e Γ φ := fun Hs σ H Q S g => h Hs σ H Q S fun ds Γ' a vs Hs' H' p s T f n al ha q => g ds Γ' a vs Hs' H' p s T (.inl (.inl ha)) q
theorem gt_ofE {e : Expr} {φ : Bool → List Sl → Prop} (h : GE B X e Γ fun d Γ' => ∃ b, d = .bool b ∧ φ b Γ') (he : ∀ whole, isTrue e X.env whole = (do let v ← whole; standAt e.pos; holding [v] (truthy v)) := by intro _; rfl) : GT B X e Γ φ := fun Hs σ H Q S g =>
  pt_of (pt_val pe_W he) (show teW X e σ H _ from h Hs σ H _ S fun d Γ' v Hs' H' ⟨b, e, p⟩ s T q => by
    subst e
    cases q
    exact ⟨b, rfl, g b Γ' Hs' H' p s T⟩)
/-! ### names and constants -/
theorem ge_name (i : Nat) {x : Str} {y : PyData} {φ : PyData → List Sl → Prop} (hN : X.N[i]? = some x) (hΓ : Γ[i]? = some (.d y)) (hv : Vis X.env.scope x) (h : φ y Γ) (hd : (x == ("__debug__" : Str)) = false := by decide) (hcd : (x == ("__classdict__" : Str)) = false := by decide) :
    GE B X (.Name x pos) Γ φ := fun Hs σ H Q S g => by
  obtain ⟨v, e, d⟩ := S.dat hΓ
  exact pe_of (pe_var hN hv hd hcd) ⟨v, e, g y Γ v Hs H h (Same.refl _) S d⟩
/-- a list of one's own, given away -/
theorem ge_give (i : Nat) {x : Str} {a : Addr} {ds : List PyData} {φ : PyData → List Sl → Prop} (hN : X.N[i]? = some x) (hΓ : Γ[i]? = some (.own a ds)) (hv : Vis X.env.scope x) (h : φ (.list ds) (Γ.set i (.d (.list ds)))) (hd : (x == ("__debug__" : Str)) = false := by decide) (hcd : (x == ("__classdict__" : Str)) = false := by decide) :
    GE B X (.Name x pos) Γ φ := fun Hs σ H Q S g => by
  obtain ⟨Hs', k, T, d⟩ := S.freeze hΓ
  obtain ⟨e, _⟩ := S.lst hΓ
  exact pe_of (pe_var hN hv hd hcd) ⟨.ref a, e, g _ _ _ Hs' H h k T d⟩
theorem gq_own (i : Nat) {x : Str} {a : Addr} {ds : List PyData} {φ : List PyData → List Sl → Prop} (hN : X.N[i]? = some x) (hΓ : Γ[i]? = some (.own a ds)) (hv : Vis X.env.scope x) (h : φ ds Γ) (hd : (x == ("__debug__" : Str)) = false := by decide) (hcd : (x == ("__classdict__" : Str)) = false := by decide) :
    GQ B X true (.Name x pos) Γ φ := fun Hs σ H Q S g => by
  obtain ⟨e, f, n, vs, hv', d⟩ := S.lst hΓ
  exact pe_of (pe_var hN hv hd hcd) ⟨.ref a, e, g _ _ _ _ Hs H h (Same.refl _) S (.inl (.inl hv')) d⟩
theorem ge_con {e : Expr} {v : V} {d : PyData} {φ : PyData → List Sl → Prop} (p : PE X e (tC v)) (hd : ∀ H, Dv H v d) (h : φ d Γ) : GE B X e Γ φ := fun Hs σ H Q S g => pe_of p (g d Γ v Hs H h (Same.refl _) S (hd Hs))
theorem ge_int {i : Int} {j : Nat} {φ : PyData → List Sl → Prop} (h : φ (.int i) Γ) : GE B X (.Constant (.int i) j pos) Γ φ := ge_con pe_int (fun _ => .int i) h
theorem ge_str {i : Str} {j : Nat} {φ : PyData → List Sl → Prop} (h : φ (.str i) Γ) : GE B X (.Constant (.str i) j pos) Γ φ := ge_con pe_str (fun _ => .str i) h
theorem ge_bool {i : Bool} {j : Nat} {φ : PyData → List Sl → Prop} (h : φ (.bool i) Γ) : GE B X (.Constant (.bool i) j pos) Γ φ := ge_con pe_bl (fun _ => .bl i) h
theorem ge_none {j : Nat} {φ : PyData → List Sl → Prop} (h : φ .none Γ) : GE B X (.Constant .none j pos) Γ φ := ge_con pe_non (fun _ => .non) h
theorem ge_num {x : Str} {n : Int} {φ : PyData → List Sl → Prop} (hm : ∃ t, X.mg x = some (.int n t)) (hg : Gl X x) (h : φ (.int n) Γ) (hd : (x == ("__debug__" : Str)) = false := by decide) : GE B X (.Name x pos) Γ φ := ge_con (pe_num hm hg hd) (fun _ => .int n) h
/-! ### arguments, displays -/
theorem ga_nil {φ : List PyData → List Sl → Prop} (h : φ [] Γ) : GA B X [] Γ φ := fun Hs σ H Q S g => pa_of pa_nil (g [] Γ [] Hs H h (Same.refl _) S .nil)
theorem ga_cons {e : Expr} {es : List Expr} {φ : List PyData → List Sl → Prop} (h : GE B X e Γ fun d Γ1 => GA B X es Γ1 fun ds Γ2 => φ (d :: ds) Γ2) (hs : starEach (e :: es) X.env = (false, eval e X.env) :: starEach es X.env := by rfl) : GA B X (e :: es) Γ φ := fun Hs σ H Q S g =>
  pa_of (pa_cons pe_W pa_W hs) (h Hs σ H _ S fun d Γ1 v Hs1 H1 p s1 S1 dv => p Hs1 σ H1 _ S1 fun ds Γ2 vs Hs2 H2 q s2 S2 dvs => g (d :: ds) Γ2 (v :: vs) Hs2 H2 q (s1.trans s2) S2 (.cons (dv.mono s2) dvs))
theorem ge_tup {es : List Expr} {x1 : Nat} {φ : PyData → List Sl → Prop} (h : GA B X es Γ fun ds Γ' => ds.length ≤ sizeLine ∧ φ (.tuple ds) Γ') : GE B X (.Tuple es x1 pos) Γ φ := fun Hs σ H Q S g =>
  pe_of (pe_tup pa_W) (h Hs σ H _ S fun ds Γ' vs Hs' H' ⟨l, p⟩ s T dv => ⟨by rw [dv.len]; exact l, fun q hq => by
    obtain ⟨k, U⟩ := T.new (o := .tup vs) hq
    exact g (.tuple ds) Γ' (.ref q) _ _ p (s.trans k) U (.tup (.inl upd_same) (dv.mono k))⟩)
theorem alone_new {Hs : Hp} {σ : L2.St} {H : Hp} (S : Sx B Hs σ H Γ) {q : Addr} (hq : H q = none) : B.fr q = none ∧ Hs q = none ∧ Alone Γ q := ⟨S.fr.free hq, S.sub.free hq, fun i b es e z => by
  obtain ⟨_, _, _, vs, hv, _⟩ := S.lst e
  rw [z, hq] at hv
  cases hv⟩
theorem gf_list {es : List Expr} {φ : List PyData → List Sl → Prop} (h : GA B X es Γ fun ds Γ' => ds.length ≤ sizeLine ∧ φ ds Γ') : GF B X (.List es pos) Γ φ := fun Hs σ H Q S g =>
  pe_of (pe_lst pa_W) (h Hs σ H _ S fun ds Γ' vs Hs' H' ⟨l, p⟩ s T dv => ⟨by rw [dv.len]; exact l, fun q hq => by
    obtain ⟨f, n, al⟩ := alone_new T hq
    exact g ds Γ' q vs Hs' _ p s (T.aside hq) f n al upd_same dv⟩)
end
end Px
/-! Operators and comparisons, by the data. -/
namespace Px
open PySem PySem.Spec PyProof.Rows L2 Tc
theorem dvs_append {H : Hp} : ∀ {vs : List V} {ds : List PyData} {ws : List V} {es : List PyData}, DvAll H vs ds → DvAll H ws es → DvAll H (vs ++ ws) (ds ++ es)
  | _, _, _, _, .nil, h => h
  | _, _, _, _, .cons a r, h => .cons a (dvs_append r h)
theorem dvs_rep {H : Hp} {vs : List V} {ds : List PyData} (h : DvAll H vs ds) : ∀ n : Nat, DvAll H (List.replicate n vs).flatten (List.replicate n ds).flatten
  | 0 => .nil
  | n + 1 => by
    rw [List.replicate_succ, List.replicate_succ, List.flatten_cons, List.flatten_cons]
    exact dvs_append h (dvs_rep h n)
theorem dvs_get {H : Hp} : ∀ {vs : List V} {ds : List PyData} {i : Nat} {d : PyData}, DvAll H vs ds → ds[i]? = some d → ∃ v, vs[i]? = some v ∧ Dv H v d
  | _, _, _, _, .nil, e => by simp at e
  | _, _, 0, _, .cons a _, e => by
    simp at e
    subst e
    exact ⟨_, rfl, a⟩
  | _, _, i + 1, d, .cons _ r, e => by
    obtain ⟨v, h1, h2⟩ := dvs_get (i := i) (d := d) r (by simpa using e)
    exact ⟨v, by simpa using h1, h2⟩
theorem dvs_get' {H : Hp} : ∀ {vs : List V} {ds : List PyData} {i : Nat} {v : V}, DvAll H vs ds → vs[i]? = some v → ∃ d, ds[i]? = some d ∧ Dv H v d
  | _, _, _, _, .nil, e => by simp at e
  | _, _, 0, _, .cons a _, e => by
    simp at e
    subst e
    exact ⟨_, rfl, a⟩
  | _, _, i + 1, d, .cons _ r, e => by
    obtain ⟨v, h1, h2⟩ := dvs_get' (i := i) (v := d) r (by simpa using e)
    exact ⟨v, by simpa using h1, h2⟩
theorem dvs_drop {H : Hp} : ∀ {vs : List V} {ds : List PyData} (n : Nat), DvAll H vs ds → DvAll H (vs.drop n) (ds.drop n)
  | _, _, 0, h => h
  | _, _, _ + 1, .nil => .nil
  | _, _, n + 1, .cons _ r => dvs_drop n r
theorem dvs_take {H : Hp} : ∀ {vs : List V} {ds : List PyData} (n : Nat), DvAll H vs ds → DvAll H (vs.take n) (ds.take n)
  | _, _, 0, _ => .nil
  | _, _, _ + 1, .nil => .nil
  | _, _, n + 1, .cons a r => .cons a (dvs_take n r)
theorem dvs_set {H : Hp} : ∀ {vs : List V} {ds : List PyData} {v : V} {d : PyData} (i : Nat), DvAll H vs ds → Dv H v d → DvAll H (vs.set i v) (ds.set i d)
  | _, _, _, _, _, .nil, _ => .nil
  | _, _, _, _, 0, .cons _ r, h => .cons h r
  | _, _, _, _, i + 1, .cons a r, h => .cons a (dvs_set i r h)
theorem dvs_snoc {H : Hp} {vs : List V} {ds : List PyData} {v : V} {d : PyData} (h : DvAll H vs ds) (g : Dv H v d) : DvAll H (vs ++ [v]) (ds ++ [d]) := dvs_append h (.cons g .nil)
theorem dvs_nil {H : Hp} {vs : List V} (h : DvAll H vs []) : vs = [] := by cases h; rfl
theorem dvs_ints {H : Hp} : ∀ {vs : List V} {ns : List Int}, DvAll H vs (ns.map PyData.int) → vs = ns.map V.int
  | _, [], .nil => rfl
  | _, _ :: _, .cons a r => by
    cases a
    rw [dvs_ints r] <;> rfl
theorem dvs_strs {H : Hp} : ∀ {vs : List V} {ns : List Str}, DvAll H vs (ns.map PyData.str) → vs = ns.map V.str
  | _, [], .nil => rfl
  | _, _ :: _, .cons a r => by
    cases a
    rw [dvs_strs r] <;> rfl
section
variable {B : Bas} {X : Cx} {Γ : List Sl} {pos : Pos}
/-! ### a two-place operation -/
def Op2 (B : Bas) (r : R2) (d1 d2 : PyData) (k : PyData → Prop) : Prop := ∀ (Γ : List Sl) (Hs : Hp) (σ : L2.St) (H : Hp) (v1 v2 : V) (Q : VK), Sx B Hs σ H Γ → Dv Hs v1 d1 → Dv Hs v2 d2 →
  (∀ d v Hs' H', k d → Same Hs Hs' → Sx B Hs' σ H' Γ → Dv Hs' v d → Q v H') → r v1 v2 H Q
theorem ge_op {op : Operator} {r : R2} {a b : Expr} {φ : PyData → List Sl → Prop} (ho : OpR X (binaryOp op) r) (R : PyData → PyData → (PyData → Prop) → Prop) (sem : ∀ d1 d2 k, R d1 d2 k → Op2 B r d1 d2 k)
    (h : GE B X a Γ fun d1 Γ1 => GE B X b Γ1 fun d2 Γ2 => R d1 d2 fun d => φ d Γ2) : GE B X (.BinOp a op b pos) Γ φ := fun Hs σ H Q S g =>
  pe_of (pe_op ho pe_W pe_W) (h Hs σ H _ S fun d1 Γ1 v1 Hs1 H1 p s1 S1 q1 => p Hs1 σ H1 _ S1 fun d2 Γ2 v2 Hs2 H2 p2 s2 S2 q2 =>
    sem d1 d2 _ p2 Γ2 Hs2 σ H2 v1 v2 Q S2 (q1.mono s2) q2 fun d v Hs3 H3 kd s3 S3 q3 => g d Γ2 v Hs3 H3 kd (s1.trans (s2.trans s3)) S3 q3)
theorem or_op {f : Value → Value → Sem Value} {r r' : R2} (h : OpR X f r) (h' : OpR X f r') : OpR X f (fun x y H Q => r x y H Q ∨ r' x y H Q) := fun pins s σ H x y v u Q I rx ry q => q.elim (h pins s σ H x y v u Q I rx ry) (h' pins s σ H x y v u Q I rx ry)
def rCatR : R2 := fun x y H Q => ∃ l b xs zs, x = .ref l ∧ y = .ref b ∧ Rd H l (.lst xs) ∧ Rd H b (.lst zs) ∧ xs.length + zs.length ≤ sizeLine ∧ ∀ p, H p = none → Q (.ref p) (upd H p (.lst (xs ++ zs)))
theorem op_catR : OpR X (binaryOp .Add) rCatR := by
  intro pins s σ H x y v u Q I rx ry h
  obtain ⟨l, b, xs, zs, rfl, rfl, hH, hB, hz, q⟩ := h
  cases rx
  cases ry
  obtain ⟨z, its, n, r, e⟩ := hH.ok I.hok
  obtain ⟨z2, its2, n2, r2, e2⟩ := hB.ok I.hok
  have l1 := r.length
  have l2 := r2.length
  refine PySem.P.add_list e e2 ?_ (by rw [List.size_toArray, List.size_toArray]; omega)
  have ea : its.toArray ++ its2.toArray = (its ++ its2).toArray := by simp
  rw [ea]
  exact ⟨.ref _, _, I.lnew (t' := s.toks) (r.append r2) (by rw [List.length_append]; omega), rfl, q _ I.fresh⟩
def AddD (d1 d2 : PyData) (k : PyData → Prop) : Prop := match d1, d2 with
  | .int i, .int j => k (.int (i + j))
  | .str x, .str y => x.length + y.length ≤ sizeLine ∧ k (.str (x ++ y))
  | .tuple xs, .tuple ys => xs.length + ys.length ≤ sizeLine ∧ k (.tuple (xs ++ ys))
  | .list xs, .list ys => xs.length + ys.length ≤ sizeLine ∧ k (.list (xs ++ ys))
  | _, _ => False
def rAddA (K : PySem.W.Frag) : R2 := fun x y H Q => (rI0 fun i j => .int (i + j)) x y H Q ∨ ((∃ i j, x = .str i ∧ y = .str j ∧ i.length + j.length ≤ sizeLine ∧ Q (.str (i ++ j)) H) ∨ (rCatA K x y H Q ∨ rCatR x y H Q))
theorem op_addA : OpR X (binaryOp .Add) (rAddA X.K) := or_op op_add (or_op op_add_str (or_op op_catA op_catR))
theorem tup_new {Hs : Hp} {σ : L2.St} {H : Hp} (S : Sx B Hs σ H Γ) {vs : List V} {ds : List PyData} (h : DvAll Hs vs ds) {Q : VK} (q : ∀ v Hs' H', Same Hs Hs' → Sx B Hs' σ H' Γ → Dv Hs' v (.tuple ds) → Q v H') (p : Addr) (hp : H p = none) : Q (.ref p) (upd H p (.tup vs)) := by
  obtain ⟨k, U⟩ := S.new (o := .tup vs) hp
  exact q _ _ _ k U (.tup (.inl upd_same) (h.mono k))
theorem lst_new {Hs : Hp} {σ : L2.St} {H : Hp} (S : Sx B Hs σ H Γ) {vs : List V} {ds : List PyData} (h : DvAll Hs vs ds) {Q : VK} (q : ∀ v Hs' H', Same Hs Hs' → Sx B Hs' σ H' Γ → Dv Hs' v (.list ds) → Q v H') (p : Addr) (hp : H p = none) : Q (.ref p) (upd H p (.lst vs)) := by
  obtain ⟨k, U⟩ := S.new (o := .lst vs) hp
  exact q _ _ _ k U (.lst (.inl upd_same) (h.mono k))
theorem sem_add {K : PySem.W.Frag} (d1 d2 : PyData) (k : PyData → Prop) (h : AddD d1 d2 k) : Op2 B (rAddA K) d1 d2 k := by
  intro Γ Hs σ H v1 v2 Q S q1 q2 g
  cases q1 with
  | int i =>
    cases q2 with
    | int j => exact .inl ⟨i, j, rfl, rfl, g _ _ Hs H h (Same.refl _) S (.int _)⟩
    | _ => exact h.elim
  | str x =>
    cases q2 with
    | str y => exact .inr (.inl ⟨x, y, rfl, rfl, h.1, g _ _ Hs H h.2 (Same.refl _) S (.str _)⟩)
    | _ => exact h.elim
  | @tup a xs ds r1 a1 =>
    cases q2 with
    | @tup b ys es r2 a2 =>
      obtain ⟨hl, hk⟩ := h
      refine .inr (.inr (.inl ⟨a, b, xs, ys, rfl, rfl, rdT (rd_up S.sub r1), rdT (rd_up S.sub r2), by rw [a1.len, a2.len]; exact hl, fun e => ?_, fun _ e => ?_, fun _ _ p hp => ?_⟩))
      · subst e
        cases a1
        exact g _ _ Hs H hk (Same.refl _) S (.tup r2 a2)
      · subst e
        cases a2
        rw [List.append_nil] at hk
        exact g _ _ Hs H hk (Same.refl _) S (.tup r1 a1)
      · exact tup_new S (dvs_append a1 a2) (fun v Hs' H' s T q => g _ v Hs' H' hk s T q) p hp
    | _ => exact h.elim
  | @lst a xs ds r1 a1 =>
    cases q2 with
    | @lst b ys es r2 a2 =>
      obtain ⟨hl, hk⟩ := h
      exact .inr (.inr (.inr ⟨a, b, xs, ys, rfl, rfl, rd_up S.sub r1, rd_up S.sub r2, by rw [a1.len, a2.len]; exact hl, lst_new S (dvs_append a1 a2) fun v Hs' H' s T q => g _ v Hs' H' hk s T q⟩))
    | _ => exact h.elim
  | _ => exact h.elim
theorem ge_add {a b : Expr} {φ : PyData → List Sl → Prop} (h : GE B X a Γ fun d1 Γ1 => GE B X b Γ1 fun d2 Γ2 => AddD d1 d2 fun d => φ d Γ2) : GE B X (.BinOp a .Add b pos) Γ φ := ge_op op_addA AddD sem_add h
def IntD (C : Int → Int → Prop) (f : Int → Int → Int) (d1 d2 : PyData) (k : PyData → Prop) : Prop := match d1, d2 with
  | .int i, .int j => C i j ∧ k (.int (f i j))
  | _, _ => False
theorem sem_int {C : Int → Int → Prop} {f : Int → Int → Int} (d1 d2 : PyData) (k : PyData → Prop) (h : IntD C f d1 d2 k) : Op2 B (rI C fun i j => .int (f i j)) d1 d2 k := by
  intro Γ Hs σ H v1 v2 Q S q1 q2 g
  cases q1 with
  | int i =>
    cases q2 with
    | int j => exact ⟨i, j, rfl, rfl, h.1, g _ _ Hs H h.2 (Same.refl _) S (.int _)⟩
    | _ => exact h.elim
  | _ => exact h.elim
def Int0 (f : Int → Int → Int) (d1 d2 : PyData) (k : PyData → Prop) : Prop := match d1, d2 with
  | .int i, .int j => k (.int (f i j))
  | _, _ => False
theorem sem_int0 {f : Int → Int → Int} (d1 d2 : PyData) (k : PyData → Prop) (h : Int0 f d1 d2 k) : Op2 B (rI0 fun i j => .int (f i j)) d1 d2 k := by
  intro Γ Hs σ H v1 v2 Q S q1 q2 g
  cases q1 with
  | int i =>
    cases q2 with
    | int j => exact ⟨i, j, rfl, rfl, g _ _ Hs H h (Same.refl _) S (.int _)⟩
    | _ => exact h.elim
  | _ => exact h.elim
theorem ge_sub {a b : Expr} {φ : PyData → List Sl → Prop} (h : GE B X a Γ fun d1 Γ1 => GE B X b Γ1 fun d2 Γ2 => Int0 (· - ·) d1 d2 fun d => φ d Γ2) : GE B X (.BinOp a .Sub b pos) Γ φ := ge_op op_sub (Int0 (· - ·)) sem_int0 h
/-- small numbers (one below 2^64), or with fewer than a million bits together -/
def MulOk (i j : Int) : Prop := CMul i j ∨ CMulW i j
theorem op_mulA : OpR X (binaryOp .Mult) (rI MulOk fun i j => .int (i * j)) := fun pins s σ H x y v u Q I rx ry ⟨i, j, e1, e2, c, q⟩ => c.elim (fun c => op_mul pins s σ H x y v u Q I rx ry ⟨i, j, e1, e2, c, q⟩) fun c => op_mulW pins s σ H x y v u Q I rx ry ⟨i, j, e1, e2, c, q⟩
def rRepL (K : PySem.W.Frag) : R2 := fun x y H Q => (rI MulOk fun i j => .int (i * j)) x y H Q ∨ ((∃ (i : Str) (k : Int), x = .str i ∧ y = .int k ∧ i.length ≤ 16 ∧ -(2 ^ 63) ≤ k ∧ k ≤ 1048576 ∧ Q (.str (Txt.mul i k)) H) ∨ rRepT K x y H Q)
theorem op_mulD : OpR X (binaryOp .Mult) (rRepL X.K) := or_op op_mulA (or_op op_mul_str op_repT)
def MulD (d1 d2 : PyData) (k : PyData → Prop) : Prop := match d1, d2 with
  | .int i, .int j => MulOk i j ∧ k (.int (i * j))
  | .str x, .int j => (x.length ≤ 16 ∧ -(2 ^ 63) ≤ j ∧ j ≤ 1048576) ∧ k (.str (Txt.mul x j))
  | .tuple xs, .int j => (xs ≠ [] ∧ 2 ≤ j ∧ j ≤ 1000 ∧ xs.length ≤ 1000) ∧ k (.tuple (List.replicate j.toNat xs).flatten)
  | _, _ => False
theorem sem_mul {K : PySem.W.Frag} (d1 d2 : PyData) (k : PyData → Prop) (h : MulD d1 d2 k) : Op2 B (rRepL K) d1 d2 k := by
  intro Γ Hs σ H v1 v2 Q S q1 q2 g
  cases q1 with
  | int i =>
    cases q2 with
    | int j => exact .inl ⟨i, j, rfl, rfl, h.1, g _ _ Hs H h.2 (Same.refl _) S (.int _)⟩
    | _ => exact h.elim
  | str x =>
    cases q2 with
    | int j => exact .inr (.inl ⟨x, j, rfl, rfl, h.1.1, h.1.2.1, h.1.2.2, g _ _ Hs H h.2 (Same.refl _) S (.str _)⟩)
    | _ => exact h.elim
  | @tup a xs ds r1 a1 =>
    cases q2 with
    | int j =>
      obtain ⟨⟨h1, h2, h3, h4⟩, hk⟩ := h
      refine .inr (.inr ⟨a, j, xs, rfl, rfl, rdT (rd_up S.sub r1), fun e => h1 (by subst e; cases a1; rfl), h2, h3, by rw [a1.len]; exact h4, tup_new S (dvs_rep a1 _) fun v Hs' H' s T q => g _ v Hs' H' hk s T q⟩)
    | _ => exact h.elim
  | _ => exact h.elim
theorem ge_mul {a b : Expr} {φ : PyData → List Sl → Prop} (h : GE B X a Γ fun d1 Γ1 => GE B X b Γ1 fun d2 Γ2 => MulD d1 d2 fun d => φ d Γ2) : GE B X (.BinOp a .Mult b pos) Γ φ := ge_op op_mulD MulD sem_mul h
theorem ge_mod {a b : Expr} {φ : PyData → List Sl → Prop} (h : GE B X a Γ fun d1 Γ1 => GE B X b Γ1 fun d2 Γ2 => IntD (fun _ j => 0 < j) (fun i j => i % j) d1 d2 fun d => φ d Γ2) : GE B X (.BinOp a .Mod b pos) Γ φ := ge_op op_mod (IntD (fun _ j => 0 < j) fun i j => i % j) sem_int h
theorem ge_fdiv {a b : Expr} {φ : PyData → List Sl → Prop} (h : GE B X a Γ fun d1 Γ1 => GE B X b Γ1 fun d2 Γ2 => IntD CDivW (fun i j => i / j) d1 d2 fun d => φ d Γ2) : GE B X (.BinOp a .FloorDiv b pos) Γ φ := ge_op op_fdivW (IntD CDivW fun i j => i / j) sem_int h
end
end Px
/-! Comparisons, tests, places of sequences, lengths. -/
namespace Px
open PySem PySem.Spec PyProof.Rows L2 Tc
/-- what stands round a piece: room for calls, no repr runs, the modules' own dict is not touched -/
structure Cxt (X : Cx) (k : Nat) : Prop where
  room : Room k X.A
  gd : X.A.guards = some []
  sm : ∃ o, X.K.lookup sysModules = some o
theorem Cxt.mono {X : Cx} {j k : Nat} (c : Cxt X k) (h : j ≤ k) : Cxt X j := ⟨c.room.mono h, c.gd, c.sm⟩
section
variable {B : Bas} {X : Cx} {Γ : List Sl} {pos : Pos}
/-! ### comparisons -/
def Cmp2 (r : R2) (d1 d2 : PyData) (k : Bool → Prop) : Prop := ∀ (H : Hp) (v1 v2 : V) (Q : VK), Dv H v1 d1 → Dv H v2 d2 → (∀ b, k b → Q (.bl b) H) → r v1 v2 H Q
theorem ge_cmp {op : CmpOp} {r : R2} {a b : Expr} {φ : PyData → List Sl → Prop} (ho : OpR X (compareOp op) r) (R : PyData → PyData → (Bool → Prop) → Prop) (sem : ∀ d1 d2 k, R d1 d2 k → Cmp2 r d1 d2 k) (hm : behindInMarks op b = false)
    (h : GE B X a Γ fun d1 Γ1 => GB B X b Γ1 fun d2 Γ2 => R d1 d2 fun c => φ (.bool c) Γ2) : GE B X (.Compare a [op] [b] pos) Γ φ := fun Hs σ H Q S g =>
  pe_of (pe_cmpR ho pe_W pe_W hm) (h Hs σ H _ S fun d1 Γ1 v1 Hs1 H1 p s1 S1 q1 => p Hs1 σ H1 _ S1 fun d2 Γ2 v2 Hs2 H2 p2 s2 S2 q2 =>
    sem d1 d2 _ p2 H2 v1 v2 Q ((q1.mono s2).mono S2.sub) q2 fun c kc => g _ Γ2 _ Hs2 H2 kc (s1.trans s2) S2 (.bl c))
theorem gt_cmp {op : CmpOp} {r : R2} {a b : Expr} {φ : Bool → List Sl → Prop} (ho : OpR X (compareOp op) r) (R : PyData → PyData → (Bool → Prop) → Prop) (sem : ∀ d1 d2 k, R d1 d2 k → Cmp2 r d1 d2 k) (hm : behindInMarks op b = false)
    (h : GE B X a Γ fun d1 Γ1 => GB B X b Γ1 fun d2 Γ2 => R d1 d2 fun c => φ c Γ2) : GT B X (.Compare a [op] [b] pos) Γ φ := fun Hs σ H Q S g =>
  pt_of (pt_cmpR ho pe_W pe_W hm) (h Hs σ H _ S fun d1 Γ1 v1 Hs1 H1 p s1 S1 q1 => p Hs1 σ H1 _ S1 fun d2 Γ2 v2 Hs2 H2 p2 s2 S2 q2 =>
    sem d1 d2 _ p2 H2 v1 v2 _ ((q1.mono s2).mono S2.sub) q2 fun c kc => ⟨c, rfl, g _ Γ2 Hs2 H2 kc (s1.trans s2) S2⟩)
/-- ==: two of the plain kinds, or two that are plain all through -/
def plain2 : PyData → PyData → Bool
  | .none, .none => true | .none, .int _ => true | .int _, .none => true | .none, .bool _ => true | .bool _, .none => true | .none, .str _ => true | .str _, .none => true
  | .int _, .int _ => true | .bool _, .bool _ => true | .str _, .str _ => true
  | .int _, .str _ => true | .str _, .int _ => true | .bool _, .str _ => true | .str _, .bool _ => true
  | _, _ => false
def rEqA : R2 := fun x y H Q => rEq x y H Q ∨ ∃ d e, Dv H x d ∧ Dv H y e ∧ SeqAt.shaped d = true ∧ SeqAt.shaped e = true ∧ Q (.bl (PyData.eqv d e)) H
def rNeA : R2 := fun x y H Q => rNe x y H Q ∨ ∃ d e, Dv H x d ∧ Dv H y e ∧ SeqAt.shaped d = true ∧ SeqAt.shaped e = true ∧ Q (.bl (!PyData.eqv d e)) H
theorem sm_none {pins : List (Addr × Obj)} {σ : L2.St} {H : Hp} {s : Shared} (hsm : ∃ o, X.K.lookup sysModules = some o) (I : Inv X pins σ H s) : H sysModules = none := by
  obtain ⟨o, ho⟩ := hsm
  exact (I.bs _ _ (I.ok.mod.kin _ _ ho)).2
theorem shaped_nd {d : PyData} (h : SeqAt.shaped d = true) : d.hasDict = false := PyData.hasDict_of_canLay d (SeqAt.canLay_of_shaped h)
theorem op_eqA {k : Nat} (c : Cxt X k) : OpR X (compareOp .Eq) rEqA := by
  intro pins s σ H x y v u Q I rx ry h
  rcases h with h | ⟨d, e, hd, he, sd, se, q⟩
  · exact op_eq pins s σ H x y v u Q I rx ry h
  · obtain ⟨as, r1, _⟩ := hd.reads clean_noDict I (sm_none c.sm I) (shaped_nd sd) v rx
    obtain ⟨bs, r2, _⟩ := he.reads clean_noDict I (sm_none c.sm I) (shaped_nd se) u ry
    exact SeqAt.compareEq_shaped r1 r2 sd se c.room.units ⟨.bl _, H, I, rfl, q⟩
theorem op_neA {k : Nat} (c : Cxt X k) : OpR X (compareOp .NotEq) rNeA := by
  intro pins s σ H x y v u Q I rx ry h
  rcases h with h | ⟨d, e, hd, he, sd, se, q⟩
  · exact op_ne pins s σ H x y v u Q I rx ry h
  · obtain ⟨as, r1, _⟩ := hd.reads clean_noDict I (sm_none c.sm I) (shaped_nd sd) v rx
    obtain ⟨bs, r2, _⟩ := he.reads clean_noDict I (sm_none c.sm I) (shaped_nd se) u ry
    exact SeqAt.compareNe_shaped r1 r2 sd se c.room.units ⟨.bl _, H, I, rfl, q⟩
def EqD (d1 d2 : PyData) (k : Bool → Prop) : Prop := (plain2 d1 d2 = true ∨ (SeqAt.shaped d1 = true ∧ SeqAt.shaped d2 = true)) ∧ k (PyData.eqv d1 d2)
def NeD (d1 d2 : PyData) (k : Bool → Prop) : Prop := (plain2 d1 d2 = true ∨ (SeqAt.shaped d1 = true ∧ SeqAt.shaped d2 = true)) ∧ k (!PyData.eqv d1 d2)
theorem plain_dec {H : Hp} {v1 v2 : V} {d1 d2 : PyData} (h : plain2 d1 d2 = true) (q1 : Dv H v1 d1) (q2 : Dv H v2 d2) : scal v1 v2 = true ∧ decide (v1 = v2) = PyData.eqv d1 d2 := by
  cases q1 <;> cases q2 <;> first
    | exact Bool.noConfusion h
    | exact ⟨rfl, rfl⟩
    | exact ⟨rfl, dec_int⟩
    | exact ⟨rfl, dec_bl⟩
    | exact ⟨rfl, dec_str⟩
    | exact ⟨rfl, decide_eq_false fun z => nomatch z⟩
theorem sem_eq (d1 d2 : PyData) (k : Bool → Prop) (h : EqD d1 d2 k) : Cmp2 rEqA d1 d2 k := fun H v1 v2 Q q1 q2 g => by
  obtain ⟨h | ⟨h1, h2⟩, hk⟩ := h
  · obtain ⟨e1, e2⟩ := plain_dec h q1 q2
    exact .inl ⟨e1, by rw [e2]; exact g _ hk⟩
  · exact .inr ⟨d1, d2, q1, q2, h1, h2, g _ hk⟩
theorem sem_ne (d1 d2 : PyData) (k : Bool → Prop) (h : NeD d1 d2 k) : Cmp2 rNeA d1 d2 k := fun H v1 v2 Q q1 q2 g => by
  obtain ⟨h | ⟨h1, h2⟩, hk⟩ := h
  · obtain ⟨e1, e2⟩ := plain_dec h q1 q2
    exact .inl ⟨e1, by rw [e2]; exact g _ hk⟩
  · exact .inr ⟨d1, d2, q1, q2, h1, h2, g _ hk⟩
def OrdD (p : Int → Int → Bool) (d1 d2 : PyData) (k : Bool → Prop) : Prop := match d1, d2 with
  | .int i, .int j => k (p i j)
  | _, _ => False
theorem sem_ord {p : Int → Int → Bool} (d1 d2 : PyData) (k : Bool → Prop) (h : OrdD p d1 d2 k) : Cmp2 (rI0 fun i j => .bl (p i j)) d1 d2 k := fun H v1 v2 Q q1 q2 g => by
  cases q1 with
  | int i =>
    cases q2 with
    | int j => exact ⟨i, j, rfl, rfl, g _ h⟩
    | _ => exact h.elim
  | _ => exact h.elim
abbrev LtD := OrdD fun i j => decide (i < j)
abbrev LeD := OrdD fun i j => decide (i ≤ j)
abbrev GtD := OrdD fun i j => decide (j < i)
abbrev GeD := OrdD fun i j => decide (j ≤ i)
def isN : PyData → Bool
  | .none => true
  | _ => false
def IsND (d1 d2 : PyData) (k : Bool → Prop) : Prop := match d2 with
  | .none => k (isN d1)
  | _ => False
def NotND (d1 d2 : PyData) (k : Bool → Prop) : Prop := match d2 with
  | .none => k (!isN d1)
  | _ => False
theorem isN_dec {H : Hp} {v : V} {d : PyData} (q : Dv H v d) : decide (v = .non) = isN d := by
  cases q <;> first | rfl | exact decide_eq_false fun z => nomatch z
theorem sem_isN (d1 d2 : PyData) (k : Bool → Prop) (h : IsND d1 d2 k) : Cmp2 (fun x y H Q => y = .non ∧ Q (.bl (decide (x = .non))) H) d1 d2 k := fun H v1 v2 Q q1 q2 g => by
  cases q2 with
  | non => exact ⟨rfl, by rw [isN_dec q1]; exact g _ h⟩
  | _ => exact h.elim
theorem sem_notN (d1 d2 : PyData) (k : Bool → Prop) (h : NotND d1 d2 k) : Cmp2 (fun x y H Q => y = .non ∧ Q (.bl (!decide (x = .non))) H) d1 d2 k := fun H v1 v2 Q q1 q2 g => by
  cases q2 with
  | non => exact ⟨rfl, by rw [isN_dec q1]; exact g _ h⟩
  | _ => exact h.elim
section
variable {a b : Expr} {φ : PyData → List Sl → Prop} {ψ : Bool → List Sl → Prop} {k : Nat}
theorem ge_eq (c : Cxt X k) (h : GE B X a Γ fun d1 Γ1 => GB B X b Γ1 fun d2 Γ2 => EqD d1 d2 fun c => φ (.bool c) Γ2) : GE B X (.Compare a [.Eq] [b] pos) Γ φ := ge_cmp (op_eqA c) EqD sem_eq (nomark _) h
theorem ge_le (h : GE B X a Γ fun d1 Γ1 => GB B X b Γ1 fun d2 Γ2 => LeD d1 d2 fun c => φ (.bool c) Γ2) : GE B X (.Compare a [.LtE] [b] pos) Γ φ := ge_cmp op_le LeD sem_ord (nomark _) h
theorem ge_gt (h : GE B X a Γ fun d1 Γ1 => GB B X b Γ1 fun d2 Γ2 => GtD d1 d2 fun c => φ (.bool c) Γ2) : GE B X (.Compare a [.Gt] [b] pos) Γ φ := ge_cmp op_gt GtD sem_ord (nomark _) h
theorem ge_ge (h : GE B X a Γ fun d1 Γ1 => GB B X b Γ1 fun d2 Γ2 => GeD d1 d2 fun c => φ (.bool c) Γ2) : GE B X (.Compare a [.GtE] [b] pos) Γ φ := ge_cmp op_ge GeD sem_ord (nomark _) h
theorem ge_isN (h : GE B X a Γ fun d1 Γ1 => GB B X b Γ1 fun d2 Γ2 => IsND d1 d2 fun c => φ (.bool c) Γ2) : GE B X (.Compare a [.Is] [b] pos) Γ φ := ge_cmp op_isN IsND sem_isN (nomark _) h
theorem ge_notN (h : GE B X a Γ fun d1 Γ1 => GB B X b Γ1 fun d2 Γ2 => NotND d1 d2 fun c => φ (.bool c) Γ2) : GE B X (.Compare a [.IsNot] [b] pos) Γ φ := ge_cmp op_notN NotND sem_notN (nomark _) h
theorem gt_eq (c : Cxt X k) (h : GE B X a Γ fun d1 Γ1 => GB B X b Γ1 fun d2 Γ2 => EqD d1 d2 fun c => ψ c Γ2) : GT B X (.Compare a [.Eq] [b] pos) Γ ψ := gt_cmp (op_eqA c) EqD sem_eq (nomark _) h
theorem gt_ne (c : Cxt X k) (h : GE B X a Γ fun d1 Γ1 => GB B X b Γ1 fun d2 Γ2 => NeD d1 d2 fun c => ψ c Γ2) : GT B X (.Compare a [.NotEq] [b] pos) Γ ψ := gt_cmp (op_neA c) NeD sem_ne (nomark _) h
theorem gt_lt (h : GE B X a Γ fun d1 Γ1 => GB B X b Γ1 fun d2 Γ2 => LtD d1 d2 fun c => ψ c Γ2) : GT B X (.Compare a [.Lt] [b] pos) Γ ψ := gt_cmp op_lt LtD sem_ord (nomark _) h
theorem gt_le (h : GE B X a Γ fun d1 Γ1 => GB B X b Γ1 fun d2 Γ2 => LeD d1 d2 fun c => ψ c Γ2) : GT B X (.Compare a [.LtE] [b] pos) Γ ψ := gt_cmp op_le LeD sem_ord (nomark _) h
theorem gt_gt (h : GE B X a Γ fun d1 Γ1 => GB B X b Γ1 fun d2 Γ2 => GtD d1 d2 fun c => ψ c Γ2) : GT B X (.Compare a [.Gt] [b] pos) Γ ψ := gt_cmp op_gt GtD sem_ord (nomark _) h
theorem gt_ge (h : GE B X a Γ fun d1 Γ1 => GB B X b Γ1 fun d2 Γ2 => GeD d1 d2 fun c => ψ c Γ2) : GT B X (.Compare a [.GtE] [b] pos) Γ ψ := gt_cmp op_ge GeD sem_ord (nomark _) h
theorem gt_isN (h : GE B X a Γ fun d1 Γ1 => GB B X b Γ1 fun d2 Γ2 => IsND d1 d2 fun c => ψ c Γ2) : GT B X (.Compare a [.Is] [b] pos) Γ ψ := gt_cmp op_isN IsND sem_isN (nomark _) h
theorem gt_notN (h : GE B X a Γ fun d1 Γ1 => GB B X b Γ1 fun d2 Γ2 => NotND d1 d2 fun c => ψ c Γ2) : GT B X (.Compare a [.IsNot] [b] pos) Γ ψ := gt_cmp op_notN NotND sem_notN (nomark _) h
end
/-- a <= b <= c -/
theorem gt_chain {op op' : CmpOp} {r r' : R2} {a b c : Expr} {φ : Bool → List Sl → Prop} (ho : OpR X (compareOp op) r) (ho' : OpR X (compareOp op') r') (R R' : PyData → PyData → (Bool → Prop) → Prop) (sem : ∀ d1 d2 k, R d1 d2 k → Cmp2 r d1 d2 k) (sem' : ∀ d1 d2 k, R' d1 d2 k → Cmp2 r' d1 d2 k)
    (h : GE B X a Γ fun d1 Γ1 => GE B X b Γ1 fun d2 Γ2 => R d1 d2 fun t => if t = true then GE B X c Γ2 fun d3 Γ3 => R' d2 d3 fun u => φ u Γ3 else φ false Γ2)
    (hm : lastMarks [op, op'] [b, c] = false := by with_unfolding_all rfl) : GT B X (.Compare a [op, op'] [b, c] pos) Γ φ := fun Hs σ H Q S g =>
  pt_of (pt_chain ho ho' pe_W pe_W pe_W hm) (h Hs σ H _ S fun d1 Γ1 v1 Hs1 H1 p s1 S1 q1 => p Hs1 σ H1 _ S1 fun d2 Γ2 v2 Hs2 H2 p2 s2 S2 q2 =>
    sem d1 d2 _ p2 H2 v1 v2 _ ((q1.mono s2).mono S2.sub) (q2.mono S2.sub) fun t kt => ⟨t, rfl, by
      cases t with
      | true =>
        have kt : GE B X c Γ2 fun d3 Γ3 => R' d2 d3 fun u => φ u Γ3 := kt
        exact iteT (kt Hs2 σ H2 _ S2 fun d3 Γ3 v3 Hs3 H3 p3 s3 S3 q3 => sem' d2 d3 _ p3 H3 v2 v3 _ ((q2.mono s3).mono S3.sub) (q3.mono S3.sub) fun u ku => ⟨u, rfl, g u Γ3 Hs3 H3 ku (s1.trans (s2.trans s3)) S3⟩)
      | false => exact iteF ⟨false, rfl, g false Γ2 Hs2 H2 kt (s1.trans s2) S2⟩⟩)
theorem ge_chain {op op' : CmpOp} {r r' : R2} {a b c : Expr} {φ : PyData → List Sl → Prop} (ho : OpR X (compareOp op) r) (ho' : OpR X (compareOp op') r') (R R' : PyData → PyData → (Bool → Prop) → Prop) (sem : ∀ d1 d2 k, R d1 d2 k → Cmp2 r d1 d2 k) (sem' : ∀ d1 d2 k, R' d1 d2 k → Cmp2 r' d1 d2 k)
    (h : GE B X a Γ fun d1 Γ1 => GE B X b Γ1 fun d2 Γ2 => R d1 d2 fun t => if t = true then GE B X c Γ2 fun d3 Γ3 => R' d2 d3 fun u => φ (.bool u) Γ3 else φ (.bool false) Γ2)
    (hm : lastMarks [op, op'] [b, c] = false := by with_unfolding_all rfl) : GE B X (.Compare a [op, op'] [b, c] pos) Γ φ := fun Hs σ H Q S g =>
  pe_of (L2.pe_chain ho ho' pe_W pe_W pe_W hm) (h Hs σ H _ S fun d1 Γ1 v1 Hs1 H1 p s1 S1 q1 => p Hs1 σ H1 _ S1 fun d2 Γ2 v2 Hs2 H2 p2 s2 S2 q2 =>
    sem d1 d2 _ p2 H2 v1 v2 _ ((q1.mono s2).mono S2.sub) (q2.mono S2.sub) fun t kt => ⟨t, rfl, by
      cases t with
      | true =>
        have kt : GE B X c Γ2 fun d3 Γ3 => R' d2 d3 fun u => φ (.bool u) Γ3 := kt
        exact iteT (kt Hs2 σ H2 _ S2 fun d3 Γ3 v3 Hs3 H3 p3 s3 S3 q3 => sem' d2 d3 _ p3 H3 v2 v3 _ ((q2.mono s3).mono S3.sub) (q3.mono S3.sub) fun u ku => g _ Γ3 _ Hs3 H3 ku (s1.trans (s2.trans s3)) S3 (.bl u))
      | false => exact iteF (g _ Γ2 _ Hs2 H2 kt (s1.trans s2) S2 (.bl false))⟩)
/-! ### not, and, or -/
section
variable {a b c : Expr} {rest : List Expr} {φ : Bool → List Sl → Prop} {ψ : PyData → List Sl → Prop}
theorem gt_not (h : GT B X a Γ fun t Γ1 => φ (!t) Γ1) : GT B X (.UnaryOp .Not a pos) Γ φ := fun Hs σ H Q S g =>
  pt_of (pt_not pt_W) (h Hs σ H (fun t H' => Q (!t) H') S fun t Γ1 Hs1 H1 p s1 S1 => g _ Γ1 Hs1 H1 p s1 S1)
theorem gt_bool {op : BoolOp} {es : List Expr} (h : GW B X (.BoolOp op es pos) Γ φ) : GT B X (.BoolOp op es pos) Γ φ := fun Hs σ H Q S g => pt_of pw_W.pt (h Hs σ H Q S g)
theorem gw_or1 (h : GT B X a Γ φ) : GW B X (.BoolOp .Or [a] pos) Γ φ := fun Hs σ H Q S g => pw_of (pw_or1 pt_W) (h Hs σ H Q S g)
theorem gw_and1 (h : GT B X a Γ φ) : GW B X (.BoolOp .And [a] pos) Γ φ := fun Hs σ H Q S g => pw_of (pw_and1 pt_W) (h Hs σ H Q S g)
theorem gw_or (h : GT B X a Γ fun t Γ1 => if t = true then φ true Γ1 else GW B X (.BoolOp .Or (b :: rest) pos) Γ1 φ) : GW B X (.BoolOp .Or (a :: b :: rest) pos) Γ φ := fun Hs σ H Q S g =>
  pw_of (pw_or pt_W pw_W) (h Hs σ H _ S fun t Γ1 Hs1 H1 p s1 S1 => by
    cases t with
    | true => exact iteT (g true Γ1 Hs1 H1 p s1 S1)
    | false =>
      have p : GW B X (.BoolOp .Or (b :: rest) pos) Γ1 φ := p
      exact iteF (p Hs1 σ H1 Q S1 fun u Γ2 Hs2 H2 q s2 S2 => g u Γ2 Hs2 H2 q (s1.trans s2) S2))
theorem gw_and (h : GT B X a Γ fun t Γ1 => if t = true then GW B X (.BoolOp .And (b :: rest) pos) Γ1 φ else φ false Γ1) : GW B X (.BoolOp .And (a :: b :: rest) pos) Γ φ := fun Hs σ H Q S g =>
  pw_of (pw_and pt_W pw_W) (h Hs σ H _ S fun t Γ1 Hs1 H1 p s1 S1 => by
    cases t with
    | false => exact iteF (g false Γ1 Hs1 H1 p s1 S1)
    | true =>
      have p : GW B X (.BoolOp .And (b :: rest) pos) Γ1 φ := p
      exact iteT (p Hs1 σ H1 Q S1 fun u Γ2 Hs2 H2 q s2 S2 => g u Γ2 Hs2 H2 q (s1.trans s2) S2))
theorem ge_not (h : GE B X a Γ fun d Γ1 => ∃ t, d = .bool t ∧ ψ (.bool (!t)) Γ1) : GE B X (.UnaryOp .Not a pos) Γ ψ := fun Hs σ H Q S g =>
  pe_of (pe_not pe_W) (h Hs σ H _ S fun d Γ1 v Hs1 H1 ⟨t, e, p⟩ s1 S1 q => by
    subst e
    cases q
    exact ⟨t, rfl, g _ Γ1 _ Hs1 H1 p s1 S1 (.bl _)⟩)
theorem ge_one {op : BoolOp} (h : GE B X a Γ ψ) : GE B X (.BoolOp op [a] pos) Γ ψ := fun Hs σ H Q S g => pe_of (pe_one pe_W) (h Hs σ H Q S g)
theorem ge_and (h : GE B X a Γ fun d Γ1 => ∃ t, d = .bool t ∧ if t = true then GE B X (.BoolOp .And (b :: rest) pos) Γ1 ψ else ψ (.bool false) Γ1) : GE B X (.BoolOp .And (a :: b :: rest) pos) Γ ψ := fun Hs σ H Q S g =>
  pe_of (pe_and pe_W pe_W) (h Hs σ H _ S fun d Γ1 v Hs1 H1 ⟨t, e, p⟩ s1 S1 q => by
    subst e
    cases q
    refine ⟨t, rfl, ?_⟩
    cases t with
    | false => exact iteF (g _ Γ1 _ Hs1 H1 p s1 S1 (.bl _))
    | true =>
      have p : GE B X (.BoolOp .And (b :: rest) pos) Γ1 ψ := p
      exact iteT (p Hs1 σ H1 Q S1 fun u Γ2 w Hs2 H2 q s2 S2 r => g u Γ2 w Hs2 H2 q (s1.trans s2) S2 r))
theorem ge_or (h : GE B X a Γ fun d Γ1 => ∃ t, d = .bool t ∧ if t = true then ψ (.bool true) Γ1 else GE B X (.BoolOp .Or (b :: rest) pos) Γ1 ψ) : GE B X (.BoolOp .Or (a :: b :: rest) pos) Γ ψ := fun Hs σ H Q S g =>
  pe_of (pe_or pe_W pe_W) (h Hs σ H _ S fun d Γ1 v Hs1 H1 ⟨t, e, p⟩ s1 S1 q => by
    subst e
    cases q
    refine ⟨t, rfl, ?_⟩
    cases t with
    | true => exact iteT (g _ Γ1 _ Hs1 H1 p s1 S1 (.bl _))
    | false =>
      have p : GE B X (.BoolOp .Or (b :: rest) pos) Γ1 ψ := p
      exact iteF (p Hs1 σ H1 Q S1 fun u Γ2 w Hs2 H2 q s2 S2 r => g u Γ2 w Hs2 H2 q (s1.trans s2) S2 r))
theorem ge_if (h : GT B X c Γ fun t Γ1 => if t = true then GE B X a Γ1 ψ else GE B X b Γ1 ψ) : GE B X (.IfExp c a b pos) Γ ψ := fun Hs σ H Q S g =>
  pe_of (pe_ifExp pt_W pe_W pe_W) (h Hs σ H _ S fun t Γ1 Hs1 H1 p s1 S1 => by
    cases t with
    | true =>
      have p : GE B X a Γ1 ψ := p
      exact iteT (p Hs1 σ H1 Q S1 fun u Γ2 w Hs2 H2 q s2 S2 r => g u Γ2 w Hs2 H2 q (s1.trans s2) S2 r)
    | false =>
      have p : GE B X b Γ1 ψ := p
      exact iteF (p Hs1 σ H1 Q S1 fun u Γ2 w Hs2 H2 q s2 S2 r => g u Γ2 w Hs2 H2 q (s1.trans s2) S2 r))
end
/-! ### places, parts -/
def atD (ds : List PyData) (i : Int) : Option PyData := (ixN ds.length i).bind fun j => ds[j]?
theorem at_dvs {H : Hp} {vs : List V} {ds : List PyData} {i : Int} {d : PyData} (h : DvAll H vs ds) (e : atD ds i = some d) : ∃ v, atI vs i = some v ∧ Dv H v d := by
  unfold atD at e
  unfold atI
  rw [h.len]
  cases q : ixN ds.length i with
  | none => rw [q] at e; cases e
  | some j =>
    rw [q] at e
    exact dvs_get h e
def IxD (d1 d2 : PyData) (k : PyData → Prop) : Prop := match d1, d2 with
  | .list ds, .int i => ∃ x, atD ds i = some x ∧ k x
  | .tuple ds, .int i => ∃ x, atD ds i = some x ∧ k x
  | .str z, .int i => z.length ≤ sizeLine ∧ ∃ c, atI z.cps.toList i = some c ∧ k (.str ⟨#[c]⟩)
  | _, _ => False
theorem ge_ix {a b : Expr} {φ : PyData → List Sl → Prop} (hs : PlainIx b) (h : GE B X a Γ fun d1 Γ1 => GE B X b Γ1 fun d2 Γ2 => IxD d1 d2 fun d => φ d Γ2) : GE B X (.Subscript a b pos) Γ φ := fun Hs σ H Q S g =>
  pe_of (pe_ix ix_seq pe_W pe_W hs) (h Hs σ H _ S fun d1 Γ1 v1 Hs1 H1 p s1 S1 q1 => p Hs1 σ H1 _ S1 fun d2 Γ2 v2 Hs2 H2 p2 s2 S2 q2 => by
    have q1 := q1.mono s2
    cases q2 with
    | int i =>
      cases q1 with
      | lst r a =>
        obtain ⟨x, e, kx⟩ := p2
        obtain ⟨v, ev, dv⟩ := at_dvs a e
        exact .inl ⟨_, _, i, v, rfl, rfl, rdL (rd_up S2.sub r), ev, g x Γ2 v Hs2 H2 kx (s1.trans s2) S2 dv⟩
      | tup r a =>
        obtain ⟨x, e, kx⟩ := p2
        obtain ⟨v, ev, dv⟩ := at_dvs a e
        exact .inr (.inl ⟨_, _, i, v, rfl, rfl, rdT (rd_up S2.sub r), ev, g x Γ2 v Hs2 H2 kx (s1.trans s2) S2 dv⟩)
      | str z =>
        obtain ⟨hz, c, e, kx⟩ := p2
        exact .inr (.inr ⟨z, i, c, rfl, rfl, hz, e, g _ Γ2 _ Hs2 H2 kx (s1.trans s2) S2 (.str _)⟩)
      | _ => exact p2.elim
    | _ => cases q1 <;> exact p2.elim)
/-- of a list of one's own -/
theorem ge_ixO (i : Nat) {x : Str} {p0 : Pos} {b : Expr} {ad : Addr} {ds : List PyData} {φ : PyData → List Sl → Prop} (hN : X.N[i]? = some x) (hΓ : Γ[i]? = some (.own ad ds)) (hv : Vis X.env.scope x) (hs : PlainIx b) (h : GE B X b Γ fun d2 Γ2 => ∃ es, Γ2[i]? = some (.own ad es) ∧ IxD (.list es) d2 fun d => φ d Γ2)
    (hd : (x == ("__debug__" : Str)) = false := by decide) (hcd : (x == ("__classdict__" : Str)) = false := by decide) : GE B X (.Subscript (.Name x p0) b pos) Γ φ := fun Hs σ H Q S g => by
  obtain ⟨e, _⟩ := S.lst hΓ
  refine pe_of (pe_ix ix_list (pe_var hN hv hd hcd) pe_W hs) ⟨_, e, h Hs σ H _ S fun d2 Γ2 v2 Hs2 H2 ⟨es, hΓ2, p2⟩ s2 S2 q2 => ?_⟩
  obtain ⟨_, _, _, vs, hv2, dv⟩ := S2.lst hΓ2
  cases q2 with
  | int j =>
    obtain ⟨x, ex, kx⟩ := p2
    obtain ⟨v, ev, dx⟩ := at_dvs dv ex
    exact ⟨ad, vs, j, v, rfl, rfl, .inl (.inl hv2), ev, g x Γ2 v Hs2 H2 kx s2 S2 dx⟩
  | _ => exact p2.elim
/-! ### length -/
def LenD (d : PyData) (k : Int → Prop) : Prop := match d with
  | .list ds => k ds.length
  | .tuple ds => k ds.length
  | .str z => z.length ≤ sizeLine ∧ k z.length
  | _ => False
theorem ge_len {x : Str} {p : Pos} {a : Expr} {φ : PyData → List Sl → Prop} (hx : x = "len") (hg : Gl X x) (hm : X.mg x = none) (h : GB B X a Γ fun d Γ1 => LenD d fun n => φ (.int n) Γ1)
    (he : starEach [a] X.env = (false, eval a X.env) :: starEach [] X.env := by rfl) : GE B X (.Call (.Name x p) [a] [] pos) Γ φ := by
  subst hx
  intro Hs σ H Q S g
  refine pe_of (pe_callB call_len hg hm (by decide +kernel) (pa_cons pe_W pa_nil he) (he := he)) (show teW X a σ H _ from h Hs σ H _ S fun d Γ1 v Hs1 H1 p s1 S1 q => ?_)
  show ∃ x n, [v] = [x] ∧ _
  cases q with
  | lst r a => exact ⟨_, _, rfl, .inl ⟨_, rdL r, rfl⟩, by rw [a.len]; exact g _ Γ1 _ Hs1 H1 p s1 S1 (.int _)⟩
  | tup r a => exact ⟨_, _, rfl, .inr ⟨_, rdT r, rfl⟩, by rw [a.len]; exact g _ Γ1 _ Hs1 H1 p s1 S1 (.int _)⟩
  | str z => exact ⟨_, _, rfl, ⟨p.1, rfl⟩, g _ Γ1 _ Hs1 H1 p.2 s1 S1 (.int _)⟩
  | _ => exact p.elim
end
end Px
/-! Statements, and defs. -/
namespace Px
open PySem PySem.Spec PyProof.Rows L2 Tc
/-- what is wanted behind a statement, of the data -/
structure DE where
  nx : List Sl → Prop
  rt : PyData → List Sl → Prop
  bk : List Sl → Prop := fun _ => False
  ct : List Sl → Prop := fun _ => False
structure Real (B : Bas) (D : Ends) (E : DE) (H0 : Hp) : Prop where
  nx : ∀ Γ Hs σ H, E.nx Γ → Same H0 Hs → Sx B Hs σ H Γ → D.nx σ H
  rt : ∀ d Γ v Hs σ H, E.rt d Γ → Same H0 Hs → Sx B Hs σ H Γ → Dv Hs v d → D.rt v H
  bk : ∀ Γ Hs σ H, E.bk Γ → Same H0 Hs → Sx B Hs σ H Γ → D.bk σ H
  ct : ∀ Γ Hs σ H, E.ct Γ → Same H0 Hs → Sx B Hs σ H Γ → D.ct σ H
theorem Real.up {B : Bas} {D : Ends} {E : DE} {H0 H1 : Hp} (R : Real B D E H0) (s : Same H0 H1) : Real B D E H1 := ⟨fun Γ Hs σ H p k S => R.nx Γ Hs σ H p (s.trans k) S, fun d Γ v Hs σ H p k S q => R.rt d Γ v Hs σ H p (s.trans k) S q, fun Γ Hs σ H p k S => R.bk Γ Hs σ H p (s.trans k) S, fun Γ Hs σ H p k S => R.ct Γ Hs σ H p (s.trans k) S⟩
/-- a def's body -/
structure Bod (X : Cx) (k : Nat) : Prop extends Cxt X k where
  nd : X.N.Nodup
  calm : X.calm = true
  po : PassesOwn (model X.prog X.w) X.A X.env X.xe
/-- what an error of one's own may find: its class, its value -/
def Exc (B : Bas) (X : Cx) (ψ : Addr → PyData → List Sl → Prop) : Prop := ∃ W : WX, Takes X W ∧ ∀ C d Γ v Hs σ H, ψ C d Γ → Sx B Hs σ H Γ → Dv Hs v d → ∀ dd, H dd = none → W (.ref C) (some dd) σ (upd H dd (.xd [("given", v)]))
theorem Exc.none {B : Bas} {X : Cx} : Exc B X (fun _ _ _ => False) := ⟨fun _ _ _ _ => False, takes0, fun _ _ _ _ _ _ _ h => h.elim⟩
theorem Exc.imp {B : Bas} {X : Cx} {ψ χ : Addr → PyData → List Sl → Prop} (h : Exc B X ψ) (i : ∀ C d Γ, χ C d Γ → ψ C d Γ) : Exc B X χ := by
  obtain ⟨W, t, h⟩ := h
  exact ⟨W, t, fun C d Γ v Hs σ H x => h C d Γ v Hs σ H (i C d Γ x)⟩
section
variable (B : Bas) (X : Cx)
def G1 (st : Stmt) (Γ : List Sl) (E : DE) : Prop := ∀ (D : Ends) (Hs : Hp) (σ : L2.St) (H : Hp), Real B D E Hs → Sx B Hs σ H Γ → tsW X st D σ H
def Gs (sts : List Stmt) (Γ : List Sl) (E : DE) : Prop := ∀ (D : Ends) (Hs : Hp) (σ : L2.St) (H : Hp), Real B D E Hs → Sx B Hs σ H Γ → tssW X sts D σ H
end
section
variable {B : Bas} {X : Cx} {Γ : List Sl} {E : DE} {pos : Pos} {k : Nat}
theorem gs_nil (h : E.nx Γ) : Gs B X [] Γ E := fun D Hs σ H R S => pss_of pss_nil (R.nx Γ Hs σ H h (Same.refl _) S)
theorem gs_cons {st : Stmt} {rest : List Stmt} (h : G1 B X st Γ { E with nx := fun Γ1 => Gs B X rest Γ1 E }) : Gs B X (st :: rest) Γ E := fun D Hs σ H R S =>
  pss_of (pss_cons ps_W pss_W) (h { D with nx := tssW X rest D } Hs σ H ⟨fun Γ1 Hs1 σ1 H1 p s S1 => p D Hs1 σ1 H1 (R.up s) S1, R.rt, R.bk, R.ct⟩ S)
theorem g1_expr {e : Expr} (h : GE B X e Γ fun _ Γ1 => E.nx Γ1) (hs : swapsWith e none pos.line X.env = pure false := by rfl) : G1 B X (.Expr e pos) Γ E := fun D Hs σ H R S =>
  ps_of (ps_expr pe_W hs) (h Hs σ H _ S fun d Γ1 v Hs1 H1 p s S1 _ => R.nx Γ1 Hs1 σ H1 p s S1)
theorem g1_ret {e : Expr} (h : GE B X e Γ fun d Γ1 => E.rt d Γ1) : G1 B X (.Return (some e) pos) Γ E := fun D Hs σ H R S =>
  ps_of (ps_ret pe_W) (h Hs σ H _ S fun d Γ1 v Hs1 H1 p s S1 q => R.rt d Γ1 v Hs1 σ H1 p s S1 q)
theorem g1_if {c : Expr} {a b : List Stmt} (h : GT B X c Γ fun t Γ1 => if t = true then Gs B X a Γ1 E else Gs B X b Γ1 E) : G1 B X (.If c a b pos) Γ E := fun D Hs σ H R S =>
  ps_of (ps_if pt_W pss_W pss_W) (h Hs σ H _ S fun t Γ1 Hs1 H1 p s S1 => by
    cases t with
    | true =>
      have p : Gs B X a Γ1 E := p
      exact iteT (p D Hs1 σ H1 (R.up s) S1)
    | false =>
      have p : Gs B X b Γ1 E := p
      exact iteF (p D Hs1 σ H1 (R.up s) S1))
theorem g1_set (c : Bod X k) (i : Nat) {x : Str} {e : Expr} {pos' : Pos} (hi : X.N[i]? = some x) (hx : Loc X.env.scope x) (h : GE B X e Γ fun d Γ1 => i < Γ1.length ∧ E.nx (Γ1.set i (.d d)))
    (hs : swapsWith e (some (.Name x pos')) pos.line X.env = pure false := by rfl) (hf : X.fn x = true ∨ X.env.scope.names.lookup x = some .local := by first | exact .inl rfl | exact .inr rfl | assumption) : G1 B X (.Assign [.Name x pos'] e pos) Γ E := fun D Hs σ H R S =>
  ps_of (ps_set c.nd hi hx pe_W hs hf) (h Hs σ H _ S fun d Γ1 v Hs1 H1 ⟨l, p⟩ s S1 q => R.nx _ Hs1 _ H1 p s (S1.putD l q))
end
/-! ### targets -/
section
variable (X : Cx)
@[irreducible] def tgW (t : Expr) : TG := fun v σ H Q => ∀ (pins : List (Addr × Obj)) (s : Shared) (u : Value), Inv X pins σ H s → RelV v u → wpAny (model X.prog X.w) X.A (assign t X.env u) (fun _ s' => ∃ σ' H', Inv X pins σ' H' s' ∧ Q σ' H') X.xe s
variable {X}
theorem tgI {t : Expr} {v : V} {σ : L2.St} {H : Hp} {Q : L2.St → Hp → Prop} (h : ∀ (pins : List (Addr × Obj)) (s : Shared) (u : Value), Inv X pins σ H s → RelV v u → wpAny (model X.prog X.w) X.A (assign t X.env u) (fun _ s' => ∃ σ' H', Inv X pins σ' H' s' ∧ Q σ' H') X.xe s) : tgW X t v σ H Q := by unfold tgW; exact h
theorem tgE {t : Expr} {v : V} {σ : L2.St} {H : Hp} {Q : L2.St → Hp → Prop} (h : tgW X t v σ H Q) : ∀ (pins : List (Addr × Obj)) (s : Shared) (u : Value), Inv X pins σ H s → RelV v u → wpAny (model X.prog X.w) X.A (assign t X.env u) (fun _ s' => ∃ σ' H', Inv X pins σ' H' s' ∧ Q σ' H') X.xe s := by unfold tgW at h; exact h
theorem pg_W {t : Expr} : PG X t (tgW X t) := ⟨fun pins s _ _ _ u _ I r h => tgE h pins s u I r⟩
theorem pg_of {t : Expr} {g : TG} (p : PG X t g) {v : V} {σ : L2.St} {H : Hp} {Q : L2.St → Hp → Prop} (h : g v σ H Q) : tgW X t v σ H Q := tgI fun pins s u I r => p.run pins s σ H v u Q I r h
end
/-- data are given to a target -/
def GG (B : Bas) (X : Cx) (t : Expr) (d : PyData) (Γ : List Sl) (φ : List Sl → Prop) : Prop := ∀ (Hs : Hp) (σ : L2.St) (H : Hp) (v : V) (Q : L2.St → Hp → Prop), Sx B Hs σ H Γ → Dv Hs v d → (∀ Γ' Hs' σ' H', φ Γ' → Same Hs Hs' → Sx B Hs' σ' H' Γ' → Q σ' H') → tgW X t v σ H Q
/-- several -/
def GGs (B : Bas) (X : Cx) (ts : List Expr) (ds : List PyData) (Γ : List Sl) (φ : List Sl → Prop) : Prop := ∃ g, PGs X ts g ∧ ∀ (Hs : Hp) (σ : L2.St) (H : Hp) (vs : List V) (Q : L2.St → Hp → Prop), Sx B Hs σ H Γ → DvAll Hs vs ds → (∀ Γ' Hs' σ' H', φ Γ' → Same Hs Hs' → Sx B Hs' σ' H' Γ' → Q σ' H') → g vs σ H Q
section
variable {B : Bas} {X : Cx} {Γ : List Sl} {E : DE} {pos : Pos} {k : Nat}
theorem gg_name (nd : X.N.Nodup) (i : Nat) {x : Str} {d : PyData} {φ : List Sl → Prop} (hi : X.N[i]? = some x) (hx : Loc X.env.scope x) (h : i < Γ.length ∧ φ (Γ.set i (.d d))) (hf : X.fn x = true ∨ X.env.scope.names.lookup x = some .local := by first | exact .inl rfl | exact .inr rfl | assumption) : GG B X (.Name x pos) d Γ φ := fun Hs σ H v Q S q g =>
  pg_of (pg_name (i := i) nd hi hx hf) (g _ Hs _ H h.2 (Same.refl _) (S.putD h.1 q))
theorem ggs_nil {φ : List Sl → Prop} (h : φ Γ) : GGs B X [] [] Γ φ := ⟨gNil, pgs_nil, fun Hs σ H vs Q S q g => ⟨dvs_nil q, g Γ Hs σ H h (Same.refl _) S⟩⟩
theorem ggs_cons {t : Expr} {ts : List Expr} {d : PyData} {ds : List PyData} {φ : List Sl → Prop} (M : List Sl) (h : GG B X t d Γ (· = M)) (h2 : GGs B X ts ds M φ)
    (hs : (assignEach (t :: ts) X.env).map (·.2) = assign t X.env :: (assignEach ts X.env).map (·.2) := by rfl) : GGs B X (t :: ts) (d :: ds) Γ φ := by
  obtain ⟨u, q, h2⟩ := h2
  refine ⟨gCons (tgW X t) u, pgs_cons pg_W q hs, fun Hs σ H vs Q S dv k => ?_⟩
  cases dv with
  | cons a r => exact ⟨_, _, rfl, h Hs σ H _ _ S a fun Γ1 Hs1 σ1 H1 e s S1 => by
      subst e
      exact h2 Hs1 σ1 H1 _ Q S1 (r.mono s) fun Γ2 Hs2 σ2 H2 p2 s2 S2 => k Γ2 Hs2 σ2 H2 p2 (s.trans s2) S2⟩
theorem gg_tup (calm : X.calm = true) {ts : List Expr} {n1 : Nat} {ds : List PyData} {φ : List Sl → Prop} (h : GGs B X ts ds Γ φ) {n : Nat} (hn : (assignEach ts X.env).length = n := by rfl) (hl : ds.length = n := by rfl) (hst : (assignEach ts X.env).findIdx? (·.1) = none := by rfl) : GG B X (.Tuple ts n1 pos) (.tuple ds) Γ φ := fun Hs σ H v Q S q k => by
  obtain ⟨g, p, h⟩ := h
  refine pg_of (pg_tup calm p hn hst) ?_
  cases q with
  | tup r a => exact ⟨_, _, rfl, rdT (rd_up S.sub r), a.len.trans hl, h Hs σ H _ Q S a k⟩
theorem g1_asg {t e : Expr} (h : GE B X e Γ fun d Γ1 => GG B X t d Γ1 E.nx) (hs : swapsWithSole [t] e pos.line X.env = pure false := by rfl) (hw : swappedStores [t] e X.env = pure none := by rfl)
    (h1 : (assignEach [t] X.env).map (·.2) = [assign t X.env] := by rfl) : G1 B X (.Assign [t] e pos) Γ E := fun D Hs σ H R S =>
  ps_of (ps_asg pe_W pg_W hs hw h1) (h Hs σ H _ S fun d Γ1 v Hs1 H1 p s S1 q => p Hs1 σ H1 v D.nx S1 q fun Γ2 Hs2 σ2 H2 n s2 S2 => R.nx Γ2 Hs2 σ2 H2 n (s.trans s2) S2)
/-- a list of one's own is changed at a place -/
theorem g1_put (i : Nat) {x : Str} {e j : Expr} {p0 ps : Pos} {ad : Addr} (hN : X.N[i]? = some x) (hv : Vis X.env.scope x)
    (h : GE B X e Γ fun d Γ1 => (∃ ds, Γ1[i]? = some (.own ad ds)) ∧ GE B X j Γ1 fun dj Γ2 => ∃ ds m, Γ2[i]? = some (.own ad ds) ∧ ∃ n, dj = .int n ∧ ixN ds.length n = some m ∧ E.nx (Γ2.set i (.own ad (ds.set m d))))
    (hd : (x == ("__debug__" : Str)) = false := by decide) (hcd : (x == ("__classdict__" : Str)) = false := by decide)
    (ha : ∀ v, assign (.Subscript (.Name x p0) j ps) X.env v = (do
      let ov ← holding [v] (eval (.Name x p0) X.env)
      let iv ← holding [v, ov] (eval j X.env)
      standAt ps
      holding [v, ov, iv] (setItem ov iv v)
      release [v, ov, iv] []) := by intro _; rfl)
    (hs : swapsWithSole [.Subscript (.Name x p0) j ps] e pos.line X.env = pure false := by rfl) (hw : swappedStores [.Subscript (.Name x p0) j ps] e X.env = pure none := by rfl)
    (h1 : (assignEach [.Subscript (.Name x p0) j ps] X.env).map (·.2) = [assign (.Subscript (.Name x p0) j ps) X.env] := by rfl) : G1 B X (.Assign [.Subscript (.Name x p0) j ps] e pos) Γ E := fun D Hs σ H R S =>
  ps_of (ps_asg pe_W (pg_sub (pe_var hN hv hd hcd) pe_W set_list ha) hs hw h1) (h Hs σ H _ S fun d Γ1 v Hs1 H1 ⟨⟨ds1, g1⟩, p⟩ s S1 q => by
    obtain ⟨e1, _⟩ := S1.lst g1
    refine ⟨_, e1, p Hs1 σ H1 _ S1 fun dj Γ2 vj Hs2 H2 ⟨ds, m, g2, n, ej, ix, nx⟩ s2 S2 qj => ?_⟩
    subst ej
    cases qj
    obtain ⟨_, _, _, vs, hv2, dv⟩ := S2.lst g2
    exact ⟨ad, vs, n, m, rfl, rfl, hv2, by rw [dv.len]; exact ix, R.nx _ Hs2 σ _ nx (s.trans s2) (S2.upd g2 (dvs_set m dv (q.mono s2)))⟩)
end
end Px
/-! Loops and comprehensions. -/
namespace Px
open PySem PySem.Spec PyProof.Rows L2 Tc
section
variable (X : Cx) (tg : Expr)
@[irreducible] def tiW (iter : Expr) : TI := fun σ H R => ∀ (pins : List (Addr × Obj)) (s : Shared), Inv X pins σ H s → wpAny (model X.prog X.w) X.A (eval iter X.env) (fun v s1 => wpAny (model X.prog X.w) X.A (pyIter v) (PIE X pins σ tg R) X.xe s1) X.xe s
variable {X tg}
theorem tiI {iter : Expr} {σ : L2.St} {H : Hp} {R : It → Hp → Prop} (h : ∀ (pins : List (Addr × Obj)) (s : Shared), Inv X pins σ H s → wpAny (model X.prog X.w) X.A (eval iter X.env) (fun v s1 => wpAny (model X.prog X.w) X.A (pyIter v) (PIE X pins σ tg R) X.xe s1) X.xe s) : tiW X tg iter σ H R := by unfold tiW; exact h
theorem tiE {iter : Expr} {σ : L2.St} {H : Hp} {R : It → Hp → Prop} (h : tiW X tg iter σ H R) : ∀ (pins : List (Addr × Obj)) (s : Shared), Inv X pins σ H s → wpAny (model X.prog X.w) X.A (eval iter X.env) (fun v s1 => wpAny (model X.prog X.w) X.A (pyIter v) (PIE X pins σ tg R) X.xe s1) X.xe s := by unfold tiW at h; exact h
theorem pi_W {iter : Expr} : PI X tg iter (tiW X tg iter) := ⟨fun pins s _ _ _ I h => tiE h pins s I⟩
theorem pi_of {iter : Expr} {wi : TI} (p : PI X tg iter wi) {σ : L2.St} {H : Hp} {R : It → Hp → Prop} (h : wi σ H R) : tiW X tg iter σ H R := tiI fun pins s I => p.run pins s σ H R I h
end
/-- n items, f i the i-th of them, while the slots keep what is asked -/
def Its (keep : List Sl → Prop) (Hs1 : Hp) (J : It) (n : Nat) (f : Nat → PyData) : Prop := ∃ (G : Hp → Prop) (Y : Nat → Hp → V → Hp → Prop), Walk J n G Y ∧
  (∀ B Hs σ H Γ, keep Γ → Same Hs1 Hs → Sx B Hs σ H Γ → G H) ∧ ∀ B i Hs σ H Γ x H', i < n → keep Γ → Same Hs1 Hs → Sx B Hs σ H Γ → Y i H x H' → ∃ Hs', Same Hs Hs' ∧ Sx B Hs' σ H' Γ ∧ Dv Hs' x (f i)
def GI (B : Bas) (X : Cx) (tg iter : Expr) (Γ : List Sl) (φ : Nat → (Nat → PyData) → (List Sl → Prop) → List Sl → Prop) : Prop := ∀ (Hs : Hp) (σ : L2.St) (H : Hp) (R : It → Hp → Prop), Sx B Hs σ H Γ →
  (∀ n f keep Γ1 J Hs1 H1, φ n f keep Γ1 → Same Hs Hs1 → Sx B Hs1 σ H1 Γ1 → Its keep Hs1 J n f → R J H1) → tiW X tg iter σ H R
abbrev nth (ds : List PyData) : Nat → PyData := fun i => ds.getD i .none
theorem nth_at {ds : List PyData} {i : Nat} {d : PyData} (h : ds[i]? = some d) : nth ds i = d := by
  show ds.getD i .none = d
  rw [List.getD_eq_getElem?_getD, h] <;> rfl
section
variable {X : Cx} {tg : Expr}
def iSeq (K : PySem.W.Frag) (tl : TE) : TI := fun σ H R => tl σ H fun x H1 => (∃ a, x = .ref a ∧ (∃ xs, SqL K H1 a xs) ∧ R (Itl K a) H1) ∨ ∃ a, x = .ref a ∧ (∃ xs, SqT K H1 a xs) ∧ R (Itt K a) H1
theorem pi_seq {l : Expr} {tl : TE} (hl : PE X l tl) : PI X tg l (iSeq X.K tl) := by
  refine ⟨fun pins s σ H R I h => ?_⟩
  refine thn (hl.run pins s σ H _ I h) fun v s1 ⟨x, H1, I1, r1, q1⟩ => ?_
  rcases q1 with ⟨a, e, ⟨xs, hq⟩, q⟩ | ⟨a, e, ⟨xs, hq⟩, q⟩
  · subst e
    cases r1
    obtain ⟨its, rv, p, hz⟩ := I1.list hq
    refine wpAny_pyIter_list p.isList ?_
    refine ⟨s1.heap.objs.size, [s1.heap.objs.size], _, _, H1, rfl, I1.kept (t' := s1.toks) fun b o e => Heap.get?_push_of_some _ e, turn_list a _, ⟨_, Heap.get?_push_size _ rfl, rfl, rfl⟩, fun b hb => ?_, q⟩
    have e : b = s1.heap.objs.size := by simpa using hb
    subst e
    exact I1.fpOk (Nat.le_refl _) (I1.hok.fresh (Nat.le_refl _))
  · subst e
    cases r1
    obtain ⟨its, rv, p, hz⟩ := I1.tuple hq
    refine wpAny_pyIter_tuple (show s1.heap.IsTuple a its.toArray from p) ?_
    refine ⟨s1.heap.objs.size, [s1.heap.objs.size], _, _, H1, rfl, I1.kept (t' := s1.toks) fun b o e => Heap.get?_push_of_some _ e, turn_tuple a _, ⟨_, Heap.get?_push_size _ rfl, rfl, rfl⟩, fun b hb => ?_, q⟩
    have e : b = s1.heap.objs.size := by simpa using hb
    subst e
    exact I1.fpOk (Nat.le_refl _) (I1.hok.fresh (Nat.le_refl _))
end
section
variable {B : Bas} {X : Cx} {Γ : List Sl} {E : DE} {pos : Pos} {k : Nat} {tg : Expr}
/-- what a walk over a sequence is over -/
def SeqD (d : PyData) (k : List PyData → Prop) : Prop := match d with
  | .list ds => k ds
  | .tuple ds => k ds
  | _ => False
theorem its_at {ks : Bool} {Hs : Hp} {a : Addr} {vs : List V} {ds : List PyData} {K : PySem.W.Frag} (r : if ks = true then Rd Hs a (.lst vs) else Rd Hs a (.tup vs)) (d : DvAll Hs vs ds) : Its (fun _ => True) Hs (if ks = true then Itl K a else Itt K a) ds.length (nth ds) := by
  have y : ∀ B i Hs2 σ H Γ x H', Same Hs Hs2 → Sx B Hs2 σ H Γ → YAt vs i H x H' → ∃ Hs', Same Hs2 Hs' ∧ Sx B Hs' σ H' Γ ∧ Dv Hs' x (nth ds i) := by
    rintro B i Hs2 σ H Γ x _ s2 S ⟨rfl, e⟩
    obtain ⟨d', e', dv⟩ := dvs_get' d e
    rw [nth_at e']
    exact ⟨Hs2, Same.refl _, S, dv.mono s2⟩
  cases ks with
  | true =>
    refine ⟨_, _, d.len ▸ walk_list (K := K) (a := a) (xs := vs), fun B Hs2 σ H Γ _ s2 S => rdL (rd_up S.sub (rd_up s2 r)), fun B i Hs2 σ H Γ x H' _ _ s2 S h => y B i Hs2 σ H Γ x H' s2 S h⟩
  | false =>
    refine ⟨_, _, d.len ▸ walk_tup (K := K) (a := a) (xs := vs), fun B Hs2 σ H Γ _ s2 S => rdT (rd_up S.sub (rd_up s2 r)), fun B i Hs2 σ H Γ x H' _ _ s2 S h => y B i Hs2 σ H Γ x H' s2 S h⟩
theorem gi_seq {e : Expr} {φ : Nat → (Nat → PyData) → (List Sl → Prop) → List Sl → Prop} (h : GE B X e Γ fun d Γ1 => SeqD d fun ds => φ ds.length (nth ds) (fun _ => True) Γ1) : GI B X tg e Γ φ := fun Hs σ H R S g =>
  pi_of (pi_seq pe_W) (show teW X e σ H _ from h Hs σ H _ S fun d Γ1 v Hs1 H1 p s S1 q => by
    cases q with
    | lst r a => exact .inl ⟨_, rfl, ⟨_, rdL (rd_up S1.sub r)⟩, g _ _ _ Γ1 _ Hs1 H1 p s S1 (its_at (ks := true) r a)⟩
    | tup r a => exact .inr ⟨_, rfl, ⟨_, rdT (rd_up S1.sub r)⟩, g _ _ _ Γ1 _ Hs1 H1 p s S1 (its_at (ks := false) r a)⟩
    | _ => exact p.elim)
/-! ### ranges -/
theorem its_rg {lo : Int} {n : Nat} {Hs : Hp} : Its (fun _ => True) Hs (Itr lo n) n (fun i => .int (lo + i)) := ⟨_, _, walk_range, fun _ _ _ _ _ _ _ _ => trivial, by
  rintro B i Hs2 σ H Γ x _ _ _ s2 S ⟨rfl, rfl⟩
  exact ⟨Hs2, Same.refl _, S, .int _⟩⟩
theorem its_rgC {lo c : Int} {n : Nat} {Hs : Hp} : Its (fun _ => True) Hs (Itc lo c n) n (fun i => .int (lo + (i : Nat) * c)) := ⟨_, _, walk_rangeC, fun _ _ _ _ _ _ _ _ => trivial, by
  rintro B i Hs2 σ H Γ x _ _ _ s2 S ⟨rfl, rfl⟩
  exact ⟨Hs2, Same.refl _, S, .int _⟩⟩
section
variable {p : Pos} {a b c : Expr} {φ : Nat → (Nat → PyData) → (List Sl → Prop) → List Sl → Prop}
theorem gi_rg1 {x : Str} (hx : x = "range") (hg : Gl X x) (hm : X.mg x = none) (h : GA B X [a] Γ fun ds Γ1 => ∃ j : Int, ds = [.int j] ∧ -(2 ^ 62) ≤ j ∧ j < 2 ^ 62 ∧ φ j.toNat (fun i => .int (0 + (i : Int))) (fun _ => True) Γ1) (hs : starEach [a] X.env = [(false, eval a X.env)] := by rfl) : GI B X tg (.Call (.Name x p) [a] [] pos) Γ φ := by
  subst hx
  exact fun Hs σ H R S g => pi_of (pi_range1 hg hm pa_W hs) (h Hs σ H _ S fun ds Γ1 vs Hs1 H1 ⟨j, e, l1, l2, q⟩ s S1 dv => by
    subst e
    have ev := dvs_ints (ns := [j]) dv
    exact ⟨j, ev, l1, l2, g _ _ _ Γ1 _ Hs1 H1 q s S1 its_rg⟩)
theorem gi_rg2 {x : Str} (hx : x = "range") (hg : Gl X x) (hm : X.mg x = none) (h : GA B X [a, b] Γ fun ds Γ1 => ∃ i j : Int, ds = [.int i, .int j] ∧ (-(2 ^ 62) ≤ i ∧ i < 2 ^ 62 ∧ -(2 ^ 62) ≤ j ∧ j < 2 ^ 62) ∧ φ (j - i).toNat (fun t => .int (i + (t : Int))) (fun _ => True) Γ1)
    (hs : starEach [a, b] X.env = [(false, eval a X.env), (false, eval b X.env)] := by rfl) (hs2 : starEach [b] X.env = [(false, eval b X.env)] := by rfl) : GI B X tg (.Call (.Name x p) [a, b] [] pos) Γ φ := by
  subst hx
  exact fun Hs σ H R S g => pi_of (pi_range2 hg hm pa_W hs hs2) (h Hs σ H _ S fun ds Γ1 vs Hs1 H1 ⟨i, j, e, l, q⟩ s S1 dv => by
    subst e
    have ev := dvs_ints (ns := [i, j]) dv
    exact ⟨i, j, ev, l, g _ _ _ Γ1 _ Hs1 H1 q s S1 its_rg⟩)
theorem gi_rg3 {x : Str} (hx : x = "range") (hg : Gl X x) (hm : X.mg x = none) (h : GA B X [a, b, c] Γ fun ds Γ1 => ∃ (i j d : Int) (n : Nat), ds = [.int i, .int j, .int d] ∧ RgC i j d n ∧ φ n (fun t => .int (i + (t : Nat) * d)) (fun _ => True) Γ1)
    (hs : starEach [a, b, c] X.env = (false, eval a X.env) :: starEach [b, c] X.env := by rfl) (hpl : (backTo pos (starEach [b, c] X.env)).any (·.1) = false := by rfl) : GI B X tg (.Call (.Name x p) [a, b, c] [] pos) Γ φ := by
  subst hx
  exact fun Hs σ H R S g => pi_of (pi_range3 hg hm pa_W hs hpl) (h Hs σ H _ S fun ds Γ1 vs Hs1 H1 ⟨i, j, d, n, e, l, q⟩ s S1 dv => by
    subst e
    have ev := dvs_ints (ns := [i, j, d]) dv
    exact ⟨i, j, d, n, ev, l, g _ _ _ Γ1 _ Hs1 H1 q s S1 its_rgC⟩)
end
/-! ### for -/
theorem g1_for (c : Bod X k) {t iter : Expr} {body : List Stmt} (h : GI B X t iter Γ fun n f keep Γ1 => ∃ I : Nat → List Sl → Prop, I 0 Γ1 ∧ (∀ i Γ, i ≤ n → I i Γ → keep Γ) ∧
      (∀ i Γ, i < n → I i Γ → GG B X t (f i) Γ fun Γ' => Gs B X body Γ' { E with nx := I (i + 1), ct := I (i + 1), bk := E.nx }) ∧ ∀ Γ, I n Γ → E.nx Γ)
    (hs : ∀ x, foldedSetIterable iter X.env x = pure x := by intro _; rfl) : G1 B X (.For t iter body [] pos) Γ E := fun D Hs σ H R S =>
  ps_of (ps_for c.po c.calm pi_W pg_W pss_W hs) (h Hs σ H _ S fun n f keep Γ1 J Hs1 H1 ⟨I, i0, ik, step, done⟩ s S1 ⟨G, Y, w, wg, wy⟩ => by
    refine for_it w (fun i σ' H' => ∃ Γ' Hs', I i Γ' ∧ Same Hs1 Hs' ∧ Sx B Hs' σ' H' Γ') ⟨Γ1, Hs1, i0, Same.refl _, S1⟩ ?_ ?_ ?_
    · rintro i σ' H' hi ⟨Γ', Hs', p, s', S'⟩
      exact wg B Hs' σ' H' Γ' (ik i Γ' hi p) s' S'
    · rintro i x σ' H' H'' hi ⟨Γ', Hs', p, s', S'⟩ y
      obtain ⟨Hs2, s2, S2, dv⟩ := wy B i Hs' σ' H' Γ' x H'' hi (ik i Γ' (Nat.le_of_lt hi) p) s' S' y
      refine step i Γ' hi p Hs2 σ' H'' x _ S2 dv fun Γ3 Hs3 σ3 H3 body s3 S3 => ?_
      have s13 : Same Hs1 Hs3 := s'.trans (s2.trans s3)
      refine body { D with nx := fun σ' H' => ∃ Γ' Hs', I (i + 1) Γ' ∧ Same Hs1 Hs' ∧ Sx B Hs' σ' H' Γ', ct := fun σ' H' => ∃ Γ' Hs', I (i + 1) Γ' ∧ Same Hs1 Hs' ∧ Sx B Hs' σ' H' Γ', bk := D.nx } Hs3 σ3 H3 ⟨fun Γ4 Hs4 σ4 H4 p4 s4 S4 => ⟨Γ4, Hs4, p4, s13.trans s4, S4⟩, fun d Γ4 v Hs4 σ4 H4 p4 s4 S4 q4 => R.rt d Γ4 v Hs4 σ4 H4 p4 (s.trans (s13.trans s4)) S4 q4, fun Γ4 Hs4 σ4 H4 p4 s4 S4 => R.nx Γ4 Hs4 σ4 H4 p4 (s.trans (s13.trans s4)) S4, fun Γ4 Hs4 σ4 H4 p4 s4 S4 => ⟨Γ4, Hs4, p4, s13.trans s4, S4⟩⟩ S3
    · rintro σ' H' ⟨Γ', Hs', p, s', S'⟩
      exact R.nx Γ' Hs' σ' H' (done Γ' p) (s.trans s') S')
end
/-! ### comprehensions -/
def clr (Γ : List Sl) : List Nat → List Sl
  | [] => Γ
  | v :: vs => (clr Γ vs).set v .no
theorem clr_len (Γ : List Sl) : ∀ vs, (clr Γ vs).length = Γ.length
  | [] => rfl
  | v :: vs => by
    show ((clr Γ vs).set v .no).length = _
    rw [List.length_set, clr_len Γ vs]
theorem clr_in {Γ : List Sl} {j : Nat} {s : Sl} : ∀ {vs : List Nat}, j ∈ vs → (clr Γ vs)[j]? = some s → s = .no
  | v :: vs, h, e => by
    rcases get_set (show ((clr Γ vs).set v .no)[j]? = some s from e) with ⟨_, z⟩ | ⟨n, e⟩
    · exact z
    · rcases List.mem_cons.mp h with z | z
      · exact absurd z n
      · exact clr_in z e
theorem clr_out {Γ : List Sl} {j : Nat} : ∀ {vs : List Nat}, j ∉ vs → (clr Γ vs)[j]? = Γ[j]?
  | [], _ => rfl
  | v :: vs, h => by
    show ((clr Γ vs).set v .no)[j]? = _
    rw [List.getElem?_set_ne fun z => h (by rw [z]; exact .head _)]
    exact clr_out fun z => h (.tail _ z)
theorem clr_some {Γ : List Sl} {j : Nat} {s : Sl} {vs : List Nat} (h : (clr Γ vs)[j]? = some s) (n : s ≠ .no) : j ∉ vs ∧ Γ[j]? = some s := by
  by_cases z : j ∈ vs
  · exact absurd (clr_in z h) n
  · exact ⟨z, (clr_out z).symm.trans h⟩
theorem wipe_there {σ : L2.St} {j : Nat} : ∀ {vs : List Nat}, j ∈ vs → j < σ.length → (wipe σ vs)[j]? = some none
  | v :: vs, h, l => by
    show ((wipe σ vs).set v none)[j]? = _
    by_cases e : v = j
    · subst e
      exact List.getElem?_set_self (by rw [wipe_length]; exact l)
    · rw [List.getElem?_set_ne e]
      rcases List.mem_cons.mp h with z | z
      · exact absurd z.symm e
      · exact wipe_there z l
theorem wipe_eq {σ σ' : L2.St} {vs : List Nat} (hl : σ.length = σ'.length) (h : ∀ j, j ∉ vs → σ[j]? = σ'[j]?) : wipe σ vs = wipe σ' vs := by
  refine List.ext_getElem? fun j => ?_
  by_cases e : j ∈ vs
  · by_cases l : j < σ.length
    · rw [wipe_there e l, wipe_there e (hl ▸ l)]
    · rw [List.getElem?_eq_none (by rw [wipe_length]; omega), List.getElem?_eq_none (by rw [wipe_length]; omega)]
  · rw [wipe_out e, wipe_out e]
    exact h j e
theorem wipe_same {σ σ' : L2.St} {vs : List Nat} (h : wipe σ vs = wipe σ' vs) : σ.length = σ'.length ∧ ∀ j, j ∉ vs → σ[j]? = σ'[j]? := by
  refine ⟨by rw [← wipe_length σ vs, h, wipe_length], fun j e => ?_⟩
  rw [← wipe_out (σ := σ) e, h, wipe_out e]
section
variable {B : Bas} {Hs : Hp} {σ σ2 : L2.St} {H : Hp} {Γ : List Sl} {vs : List Nat}
theorem Sx.clr (S : Sx B Hs σ H Γ) (h : σ2.length = σ.length) (e : ∀ j, j ∉ vs → σ2[j]? = σ[j]?) : Sx B Hs σ2 H (Px.clr Γ vs) := by
  refine ⟨S.fr, S.gr, S.sub, by rw [h, clr_len]; exact S.len, fun i s hs => ?_, fun i j a ds b es h1 h2 n => ?_, S.tb⟩
  · by_cases z : i ∈ vs
    · rw [clr_in z hs]
      exact trivial
    · rw [e i z]
      exact S.sl i s ((clr_out z).symm.trans hs)
  · exact S.ap i j a ds b es (clr_some h1 fun z => nomatch z).2 (clr_some h2 fun z => nomatch z).2 n
/-- a thing beside the slots is changed -/
theorem Sx.beside (S : Sx B Hs σ H Γ) {D : Addr} {o : HO} {u0 : HO} (hu : H D = some u0) (nu : noTb u0 = true) (n : Hs D = none) (f : B.fr D = none) (al : Alone Γ D) : Sx B Hs σ (L2.upd H D o) Γ := by
  refine ⟨fun b u e => ?_, S.gr, fun b u e => ?_, S.len, fun i s h => (S.sl i s h).mono (Same.refl _) fun a ds e => ?_, S.ap, tabs_updT S.tb hu nu⟩
  · have : b ≠ D := fun z => by rw [z, f] at e; cases e
    exact (upd_ne this).trans (S.fr b u e)
  · have : b ≠ D := fun z => by rw [z, n] at e; cases e
    exact (upd_ne this).trans (S.sub b u e)
  · subst e
    obtain ⟨_, _, m, _⟩ := S.lst h
    exact ⟨m, upd_ne (al i a ds h)⟩
/-- what stands at D is held, too -/
theorem Sx.hold (S : Sx B Hs σ H Γ) {D : Addr} {u : HO} (hD : H D = some u) (n : Hs D = none) (f : B.fr D = none) (al : Alone Γ D) : Sx ⟨L2.upd B.fr D u, Hs, B.T⟩ Hs σ H Γ := by
  refine ⟨fun b o e => ?_, Grow.refl _ _, S.sub, S.len, fun i s h => ?_, S.ap, S.tb⟩
  · by_cases z : b = D
    · subst z
      have e : L2.upd B.fr b u b = some o := e
      rw [upd_same] at e
      rw [hD]
      exact e
    · have e : L2.upd B.fr D u b = some o := e
      rw [upd_ne z] at e
      exact S.fr b o e
  · have q := S.sl i s h
    cases s with
    | own a ds =>
      obtain ⟨q1, q2, q3⟩ := q
      exact ⟨q1, (upd_ne (al i a ds h)).trans q2, q3⟩
    | _ => exact q
theorem Sx.loose {F : Hp} {hs0 Hs0 : Hp} {T0 : List (Addr × Str)} {D : Addr} {u : HO} (S : Sx ⟨L2.upd F D u, Hs0, T0⟩ Hs σ H Γ) (g : Grow F hs0 Hs0) (f : F D = none) (n : Hs0 D = none) : Sx ⟨F, hs0, T0⟩ Hs σ H Γ ∧ H D = some u ∧ Hs D = none ∧ Alone Γ D := by
  have up : ∀ b, F b ≠ none → L2.upd F D u b ≠ none := fun b hb => by
    by_cases z : b = D
    · rw [z, upd_same]
      exact fun z => nomatch z
    · rw [upd_ne z]
      exact hb
  refine ⟨⟨fun b o e => S.fr b o ?_, g.trans (S.gr.mono up), S.sub, S.len, fun i s h => ?_, S.ap, S.tb⟩, S.fr D u upd_same, S.gr.off D n (by show L2.upd F D u D ≠ none; rw [upd_same]; exact fun z => nomatch z), fun i b es h z => ?_⟩
  · have : b ≠ D := fun z => by
      have e : F b = some o := e
      rw [z, f] at e
      cases e
    exact (upd_ne this).trans e
  · have q := S.sl i s h
    cases s with
    | own a ds =>
      obtain ⟨q1, q2, q3⟩ := q
      have q2 : L2.upd F D u a = none := q2
      have : a ≠ D := fun z => by rw [z, upd_same] at q2; cases q2
      exact ⟨q1, (upd_ne this).symm.trans q2, q3⟩
    | _ => exact q
  · obtain ⟨_, q2, _⟩ := S.lst h
    have q2 : L2.upd F D u b = none := q2
    rw [z, upd_same] at q2
    cases q2
end
/-- data are given to a comprehension's target -/
def GC (B : Bas) (X : Cx) (vs : List Nat) (t : Expr) (d : PyData) (Γ : List Sl) (φ : List Sl → Prop) : Prop := ∀ (Hs : Hp) (σ : L2.St) (H : Hp) (v : V) (Q : L2.St → Hp → Prop), Sx B Hs σ H Γ → Dv Hs v d → (∀ Γ' Hs' σ' H', φ Γ' → Same Hs Hs' → Sx B Hs' σ' H' Γ' → wipe σ' vs = wipe σ vs → Q σ' H') → tgW X t v σ H Q
def GCs (B : Bas) (X : Cx) (vs : List Nat) (ts : List Expr) (ds : List PyData) (Γ : List Sl) (φ : List Sl → Prop) : Prop := ∃ g, PGs X ts g ∧ ∀ (Hs : Hp) (σ : L2.St) (H : Hp) (us : List V) (Q : L2.St → Hp → Prop), Sx B Hs σ H Γ → DvAll Hs us ds → (∀ Γ' Hs' σ' H', φ Γ' → Same Hs Hs' → Sx B Hs' σ' H' Γ' → wipe σ' vs = wipe σ vs → Q σ' H') → g us σ H Q
/-- tests of a comprehension -/
@[irreducible] def tpW (X : Cx) (ifs : List Expr) : TT := fun σ H Q => ∀ (pins : List (Addr × Obj)) (s : Shared), Inv X pins σ H s → wpAny (model X.prog X.w) X.A (forIn ifs true fun c r => if r = true then do let ok ← isTrue c X.env (eval c X.env); pure (ForInStep.yield ok) else pure (ForInStep.yield r)) (TP X pins σ Q) X.xe s
theorem tpI {X : Cx} {ifs : List Expr} {σ : L2.St} {H : Hp} {Q : Bool → Hp → Prop} (h : ∀ (pins : List (Addr × Obj)) (s : Shared), Inv X pins σ H s → wpAny (model X.prog X.w) X.A (forIn ifs true fun c r => if r = true then do let ok ← isTrue c X.env (eval c X.env); pure (ForInStep.yield ok) else pure (ForInStep.yield r)) (TP X pins σ Q) X.xe s) : tpW X ifs σ H Q := by unfold tpW; exact h
theorem tpE {X : Cx} {ifs : List Expr} {σ : L2.St} {H : Hp} {Q : Bool → Hp → Prop} (h : tpW X ifs σ H Q) : ∀ (pins : List (Addr × Obj)) (s : Shared), Inv X pins σ H s → wpAny (model X.prog X.w) X.A (forIn ifs true fun c r => if r = true then do let ok ← isTrue c X.env (eval c X.env); pure (ForInStep.yield ok) else pure (ForInStep.yield r)) (TP X pins σ Q) X.xe s := by unfold tpW at h; exact h
theorem pts_of {X : Cx} {ifs : List Expr} {t : TT} (p : PTs X ifs t) {σ : L2.St} {H : Hp} {Q : Bool → Hp → Prop} (h : t σ H Q) : tpW X ifs σ H Q := tpI fun pins s I => p.run pins s σ H Q I h
def GP (B : Bas) (X : Cx) (ifs : List Expr) (Γ : List Sl) (φ : Bool → List Sl → Prop) : Prop := ∀ (Hs : Hp) (σ : L2.St) (H : Hp) (Q : Bool → Hp → Prop), Sx B Hs σ H Γ →
  (∀ b Γ' Hs' H', φ b Γ' → Same Hs Hs' → Sx B Hs' σ H' Γ' → Q b H') → tpW X ifs σ H Q
section
variable {B : Bas} {X : Cx} {Γ : List Sl} {pos : Pos} {k : Nat} {vs : List Nat}
theorem gp_nil {φ : Bool → List Sl → Prop} (h : φ true Γ) : GP B X [] Γ φ := fun Hs σ H Q S g => pts_of pts_nil (g true Γ Hs H h (Same.refl _) S)
theorem gp_one {t : Expr} {φ : Bool → List Sl → Prop} (h : GT B X t Γ φ) : GP B X [t] Γ φ := fun Hs σ H Q S g => pts_of (pts_one pt_W) (h Hs σ H Q S g)
theorem gc_name (nd : X.N.Nodup) (i : Nat) {x : Str} {d : PyData} {φ : List Sl → Prop} (hi : X.N[i]? = some x) (hx : Loc X.env.scope x) (hm : i ∈ vs) (h : i < Γ.length ∧ φ (Γ.set i (.d d))) (hf : X.fn x = true ∨ X.env.scope.names.lookup x = some .local := by first | exact .inl rfl | exact .inr rfl | assumption) : GC B X vs (.Name x pos) d Γ φ := fun Hs σ H v Q S q g =>
  pg_of (pg_name (i := i) nd hi hx hf) (g _ Hs _ H h.2 (Same.refl _) (S.putD h.1 q) (wipe_eq (List.length_set ..) fun j hj => List.getElem?_set_ne fun z => hj (by rw [← z]; exact hm)))
theorem gcs_nil {φ : List Sl → Prop} (h : φ Γ) : GCs B X vs [] [] Γ φ := ⟨gNil, pgs_nil, fun Hs σ H us Q S q g => ⟨dvs_nil q, g Γ Hs σ H h (Same.refl _) S rfl⟩⟩
theorem gcs_cons {t : Expr} {ts : List Expr} {d : PyData} {ds : List PyData} {φ : List Sl → Prop} (M : List Sl) (h : GC B X vs t d Γ (· = M)) (h2 : GCs B X vs ts ds M φ)
    (hs : (assignEach (t :: ts) X.env).map (·.2) = assign t X.env :: (assignEach ts X.env).map (·.2) := by rfl) : GCs B X vs (t :: ts) (d :: ds) Γ φ := by
  obtain ⟨u, q, h2⟩ := h2
  refine ⟨gCons (tgW X t) u, pgs_cons pg_W q hs, fun Hs σ H us Q S dv k => ?_⟩
  cases dv with
  | cons a r => exact ⟨_, _, rfl, h Hs σ H _ _ S a fun Γ1 Hs1 σ1 H1 e s S1 w1 => by
      subst e
      exact h2 Hs1 σ1 H1 _ Q S1 (r.mono s) fun Γ2 Hs2 σ2 H2 p2 s2 S2 w2 => k Γ2 Hs2 σ2 H2 p2 (s.trans s2) S2 (w2.trans w1)⟩
theorem gc_tup (calm : X.calm = true) {ts : List Expr} {n1 : Nat} {ds : List PyData} {φ : List Sl → Prop} (h : GCs B X vs ts ds Γ φ) {n : Nat} (hn : (assignEach ts X.env).length = n := by rfl) (hl : ds.length = n := by rfl) (hst : (assignEach ts X.env).findIdx? (·.1) = none := by rfl) : GC B X vs (.Tuple ts n1 pos) (.tuple ds) Γ φ := fun Hs σ H v Q S q k => by
  obtain ⟨g, p, h⟩ := h
  refine pg_of (pg_tup calm p hn hst) ?_
  cases q with
  | tup r a => exact ⟨_, _, rfl, rdT (rd_up S.sub r), a.len.trans hl, h Hs σ H _ Q S a k⟩
/-- the block's contexts -/
abbrev blkX (X : Cx) (scope : Scope) (s : Shared) (H : Hp) (C : Addr) (cl : List (Str × Addr)) (fp : List Addr) : Cx := X.blk s H scope (compEnvC scope cl C X.env) fp
/-- what holds in all of the block's contexts -/
def Blk (X : Cx) (scope : Scope) (φ : Cx → Prop) : Prop := ∀ (s : Shared) (H : Hp) (C : Addr) (cl : List (Str × Addr)) (fp : List Addr), φ (blkX X scope s H C cl fp)
def tgB (X : Cx) (scope : Scope) (t : Expr) : TG := fun v σ H Q => ∀ s0 H0 C cl fp, tgW (blkX X scope s0 H0 C cl fp) t v σ H Q
def tpB (X : Cx) (scope : Scope) (ifs : List Expr) : TT := fun σ H Q => ∀ s0 H0 C cl fp, tpW (blkX X scope s0 H0 C cl fp) ifs σ H Q
def teB (X : Cx) (scope : Scope) (e : Expr) : TE := fun σ H Q => ∀ s0 H0 C cl fp, teW (blkX X scope s0 H0 C cl fp) e σ H Q
/-- [elt for t in iter if ..]; I: the turn, what is made so far -/
theorem gf_lc {elt t iter : Expr} {ifs : List Expr} {scope : Scope} {own : List (Str × Nat)} {φ : List PyData → List Sl → Prop} (calm : X.calm = true) (nd : X.N.Nodup) (ok : BlkOk X.N X.env.scope scope own)
    (h : GI B X t iter Γ fun n f keep Γ1 => ∃ I : Nat → List PyData → List Sl → Prop, I 0 [] (clr Γ1 (own.map (·.2))) ∧ (∀ i acc Γ, i ≤ n → I i acc Γ → keep Γ) ∧
      (∀ i acc Γ, i < n → I i acc Γ → ∀ B', Blk X scope fun Y => GC B' Y (own.map (·.2)) t (f i) (clr Γ (own.map (·.2))) fun Γ2 => Blk X scope fun Y => GP B' Y ifs Γ2 fun b Γ3 => if b = true then Blk X scope fun Y => GE B' Y elt Γ3 fun d Γ4 => acc.length < sizeLine ∧ I (i + 1) (acc ++ [d]) (clr Γ4 (own.map (·.2))) else I (i + 1) acc (clr Γ3 (own.map (·.2)))) ∧
      ∀ acc Γ, I n acc Γ → φ acc Γ)
    (hs : ∀ x, foldedSetIterable iter X.env x = pure x := by intro _; rfl) : GF B X (.ListComp elt [⟨t, iter, ifs, 0⟩] scope pos) Γ φ := fun Hs σ H Q S g =>
  pe_of (pe_lc (g := tgB X scope t) (tt := tpB X scope ifs) (te := teB X scope elt)
    calm nd pi_W ok (fun s0 H0 C cl fp => ⟨fun pins s _ _ _ u _ I r h => tgE (h s0 H0 C cl fp) pins s u I r⟩) (fun s0 H0 C cl fp => ⟨fun pins s _ _ _ I h => tpE (h s0 H0 C cl fp) pins s I⟩) (fun s0 H0 C cl fp => ⟨fun pins s _ _ _ I h => teE (h s0 H0 C cl fp) pins s I⟩) hs)
    (h Hs σ H _ S fun n f keep Γ1 J Hs1 H1 ⟨I, i0, ik, step, done⟩ s S1 ⟨G, Y, w, wg, wy⟩ D hD => by
      obtain ⟨fD, nD, al⟩ := alone_new S1 hD
      refine lc_it w (fun i H' => ∃ acc vs Γ' Hs', I i acc Γ' ∧ Same Hs1 Hs' ∧ Sx B Hs' σ H' Γ' ∧ H' D = some (.lst vs) ∧ DvAll Hs' vs acc ∧ Hs' D = none ∧ Alone Γ' D) ⟨[], [], _, Hs1, i0, Same.refl _, (S1.aside hD).clr rfl (fun _ _ => rfl), upd_same, .nil, nD, fun i b es e => al i b es (clr_some e fun z => nomatch z).2⟩ ?_ ?_ ?_
      · rintro i H' hi ⟨acc, vs, Γ', Hs', p, s', S', _⟩
        exact wg B Hs' σ H' Γ' (ik i acc Γ' hi p) s' S'
      · rintro i x H' H'' hi ⟨acc, vs, Γ', Hs', p, s', S', hD', dv, nD', al'⟩ y
        have SB := S'.hold hD' nD' fD al'
        have g0 : Grow B.fr B.hs Hs' := S'.gr
        obtain ⟨Hs2, s2, S2, dx⟩ := wy _ i Hs' σ H' Γ' x H'' hi (ik i acc Γ' (Nat.le_of_lt hi) p) s' SB y
        have body := step i acc Γ' hi p ⟨upd B.fr D (.lst vs), Hs', B.T⟩
        have S2w : Sx ⟨upd B.fr D (.lst vs), Hs', B.T⟩ Hs2 (wipe σ (own.map (·.2))) H'' (clr Γ' (own.map (·.2))) := S2.clr (wipe_length _ _) fun j hj => wipe_out hj
        have back : ∀ {Γ6 : List Sl} {Hs6 : Hp} {σ6 : L2.St} {H6 : Hp}, wipe σ6 (own.map (·.2)) = wipe σ (own.map (·.2)) → Sx ⟨upd B.fr D (.lst vs), Hs', B.T⟩ Hs6 σ6 H6 Γ6 → Sx B Hs6 σ H6 (clr Γ6 (own.map (·.2))) ∧ H6 D = some (.lst vs) ∧ Hs6 D = none ∧ Alone (clr Γ6 (own.map (·.2))) D := fun {Γ6 Hs6 σ6 H6} w6 S6 => by
          obtain ⟨l, e⟩ := wipe_same w6
          exact (S6.clr (vs := own.map (·.2)) l.symm fun j hj => (e j hj).symm).loose g0 fD nD'
        intro s0 H0 C cl fp
        refine body s0 H0 C cl fp Hs2 (wipe σ (own.map (·.2))) H'' x _ S2w dx fun Γ2 Hs3 σ3 H3 p3 s3 S3 w3 => ?_
        have w3 : wipe σ3 (own.map (·.2)) = wipe σ (own.map (·.2)) := w3.trans (wipe_eq (wipe_length _ _) fun j hj => wipe_out hj)
        refine ⟨w3, fun s0 H0 C cl fp => p3 s0 H0 C cl fp Hs3 σ3 H3 _ S3 fun b Γ3 Hs4 H4 p4 s4 S4 => ?_⟩
        cases b with
        | false =>
          obtain ⟨Sb, hb, nb, ab⟩ := back w3 S4
          have sAll : Same Hs' Hs4 := s2.trans (s3.trans s4)
          exact iteF ⟨acc, vs, _, Hs4, p4, s'.trans sAll, Sb, hb, dv.mono sAll, nb, ab⟩
        | true =>
          have p4 : Blk X scope fun Y => GE _ Y elt Γ3 fun d Γ4 => acc.length < sizeLine ∧ I (i + 1) (acc ++ [d]) (clr Γ4 (own.map (·.2))) := p4
          refine iteT fun s0 H0 C cl fp => p4 s0 H0 C cl fp Hs4 σ3 H4 _ S4 fun d Γ5 v5 Hs5 H5 ⟨hl, p5⟩ s5 S5 q5 => ?_
          obtain ⟨Sb, hb, nb, ab⟩ := back w3 S5
          have sAll : Same Hs' Hs5 := s2.trans (s3.trans (s4.trans s5))
          exact ⟨vs, hb, by rw [dv.len]; exact hl, acc ++ [d], vs ++ [v5], _, Hs5, p5, s'.trans sAll, Sb.beside hb rfl nb fD ab, upd_same, dvs_snoc (dv.mono sAll) q5, nb, ab⟩
      · rintro H' ⟨acc, vs, Γ', Hs', p, s', S', hD', dv, nD', al'⟩
        exact g acc Γ' D vs Hs' H' (done acc Γ' p) (s.trans s') S' fD nD' al' hD' dv)
end
end Px
/-! Defs: what they promise of data, how they are called; errors of one's own. -/
namespace Px
open PySem PySem.Spec PyProof.Rows L2 Tc
inductive Out where
  | ok (d : PyData)
  | up (C : Addr) (d : PyData)
def Out.to (o : Out) (a : PyData → Prop) (b : Addr → PyData → Prop) : Prop := match o with
  | .ok d => a d
  | .up C d => b C d
/-- it is raised, v kept -/
def upE (C : Addr) (v : V) (H : Hp) (E : XK) : Prop := ∀ dd, H dd = none → E (.ref C) (some dd) (upd H dd (.xd [("given", v)]))
/-- what a def of data gives -/
def spF (n : Nat) (pre : List PyData → Prop) (f : List PyData → Out) : Sp := fun vs H Q E => ∃ Hs ds, Same Hs H ∧ DvAll Hs vs ds ∧ ds.length = n ∧ pre ds ∧
  ∀ v Hs' H', Same H H' → Same Hs' H' → Grow H Hs Hs' → (f ds).to (fun d => Dv Hs' v d → Q v H') (fun C d => Dv Hs' v d → upE C v H' E)
/-- .. of a list that it changes, and of data; R tells what may come -/
def spP (n : Nat) (pre : List PyData → List PyData → Prop) (R : List PyData → List PyData → Out → List PyData → Prop) : Sp := fun vs H Q E => ∃ Hs a pv ws ps ds, vs = .ref a :: ws ∧ Same Hs H ∧ Hs a = none ∧ H a = some (.lst pv) ∧ DvAll Hs pv ps ∧ DvAll Hs ws ds ∧ ds.length = n ∧ pre ps ds ∧
  ∀ o ps', R ps ds o ps' → ∀ v Hs' H' pv', (∀ b u, H b = some u → b ≠ a → H' b = some u) → Same Hs' H' → Grow H Hs Hs' → H' a = some (.lst pv') → DvAll Hs' pv' ps' → o.to (fun d => Dv Hs' v d → Q v H') (fun C d => Dv Hs' v d → upE C v H' E)
/-- the slots at a def's start -/
def slots0 (N : List Str) (Γ : List Sl) : List Sl := Γ ++ List.replicate (N.length - Γ.length) .no
theorem start_get {N : List Str} {vs : List V} {i : Nat} {v : V} (h : vs[i]? = some v) : (L2.start N vs)[i]? = some (some v) := by
  show (vs.map some ++ _)[i]? = _
  rw [List.getElem?_append_left (by rw [List.length_map]; exact (List.getElem?_eq_some_iff.mp h).1), List.getElem?_map, h] <;> rfl
theorem slots_get {N : List Str} {Γ : List Sl} {i : Nat} {s : Sl} (h : (slots0 N Γ)[i]? = some s) : s = .no ∨ Γ[i]? = some s := by
  unfold slots0 at h
  by_cases l : i < Γ.length
  · rw [List.getElem?_append_left l] at h
    exact .inr h
  · rw [List.getElem?_append_right (by omega), List.getElem?_replicate] at h
    split at h
    · exact .inl (Option.some.inj h).symm
    · cases h
theorem map_get {ds : List PyData} {i : Nat} {s : Sl} (h : (ds.map Sl.d)[i]? = some s) : ∃ d, ds[i]? = some d ∧ s = .d d := by
  rw [List.getElem?_map] at h
  cases q : ds[i]? with
  | none => rw [q] at h; cases h
  | some d => rw [q] at h; exact ⟨d, rfl, (Option.some.inj h).symm⟩
section
variable {P : Program} {w : World} {K : PySem.W.Frag} {mg : Str → Option Value} {base : Heap}
/-- a def of data, by its body -/
theorem fn_data {x qual : Str} {st : Stmt} {f : Addr} {fd : FuncData} {N ps : List Str} {k : Nat} (F : Fun K x qual st f fd) (S : FnScope N ps (defScope st)) (sm : ∃ o, K.lookup sysModules = some o) (hl : ps.length ≤ N.length) (pre : List PyData → Prop) (g : List PyData → Out)
    (body : ∀ (cdv : Value) (A : Around) (outer : List Env) (s : Shared) (H : Hp) (E : XK) (B : Bas) (ds : List PyData), ds.length = ps.length → pre ds →
      Bod (cxOf (L2.CX P w) P w K mg base N qual (defScope st) f cdv A outer s H E) k → Exc B (cxOf (L2.CX P w) P w K mg base N qual (defScope st) f cdv A outer s H E) (fun C d _ => g ds = .up C d) →
      Gs B (cxOf (L2.CX P w) P w K mg base N qual (defScope st) f cdv A outer s H E) (defBody st) (slots0 N (ds.map .d)) { nx := fun _ => g ds = .ok .none, rt := fun d _ => g ds = .ok d }) :
    FnG P w K mg base (L2.CX P w) (k + 1) f fd ps (spF ps.length pre g) := by
  refine Fun.okG F S (fun vs H Q E h => ?_) (fun cdv A outer s H vs Q E hr hgd h => ?_)
  · obtain ⟨Hs, ds, _, d, l, _⟩ := h
    exact d.len.trans l
  · obtain ⟨Hs, ds, sub, dv, l, hp, q⟩ := h
    have tk := takes_of (X := cxOf (L2.CX P w) P w K mg base N qual (defScope st) f cdv A outer s H E) (E := E) rfl rfl rfl rfl
    have S0 : Sx ⟨H, Hs, []⟩ Hs (L2.start N vs) H (slots0 N (ds.map .d)) := by
      refine ⟨Same.refl _, Grow.refl _ _, sub, ?_, fun i t h => ?_, fun i j a es b fs h1 h2 n => ?_, tabs_nil⟩
      · show (vs.map some ++ List.replicate _ none).length = (ds.map Sl.d ++ _).length
        simp only [List.length_append, List.length_map, List.length_replicate, dv.len]
      · rcases slots_get h with rfl | h
        · exact trivial
        · obtain ⟨d, e, rfl⟩ := map_get h
          obtain ⟨v, ev, q⟩ := dvs_get dv e
          exact ⟨v, start_get ev, q⟩
      · rcases slots_get h1 with z | z
        · cases z
        · obtain ⟨d, _, z⟩ := map_get z
          cases z
    refine ⟨_, pss_W, body cdv A outer s H E ⟨H, Hs, []⟩ ds l hp ⟨⟨hr, hgd, sm⟩, S.nd, rfl, PassesOwn.leaving⟩ ⟨_, tk, fun C d Γ v Hs' σ' H' e T dvv dd hdd => ?_⟩ _ Hs _ H ⟨fun Γ Hs' σ' H' e _ T => ?_, fun d Γ v Hs' σ' H' e _ T dvv => ?_, fun _ _ _ _ z => z.elim, fun _ _ _ _ z => z.elim⟩ S0⟩
    · have z := q v Hs' H' T.fr T.sub T.gr
      rw [e] at z
      exact z dvv dd hdd
    · have z := q .non Hs' H' T.fr T.sub T.gr
      have e : g ds = .ok .none := e
      rw [e] at z
      exact z .non
    · have z := q v Hs' H' T.fr T.sub T.gr
      have e : g ds = .ok d := e
      rw [e] at z
      exact z dvv
/-- a def of a list that it changes -/
theorem fn_pail {x qual : Str} {st : Stmt} {f : Addr} {fd : FuncData} {N ps : List Str} {k n : Nat} (F : Fun K x qual st f fd) (S : FnScope N ps (defScope st)) (sm : ∃ o, K.lookup sysModules = some o) (hn : ps.length = n + 1) (pre : List PyData → List PyData → Prop) (R : List PyData → List PyData → Out → List PyData → Prop)
    (body : ∀ (cdv : Value) (A : Around) (outer : List Env) (s : Shared) (H : Hp) (E : XK) (B : Bas) (a : Addr) (ms ds : List PyData), ds.length = n → pre ms ds →
      Bod (cxOf (L2.CX P w) P w K mg base N qual (defScope st) f cdv A outer s H E) k → Exc B (cxOf (L2.CX P w) P w K mg base N qual (defScope st) f cdv A outer s H E) (fun C d Γ => ∃ ms', Γ[0]? = some (.own a ms') ∧ R ms ds (.up C d) ms') →
      Gs B (cxOf (L2.CX P w) P w K mg base N qual (defScope st) f cdv A outer s H E) (defBody st) (slots0 N (.own a ms :: ds.map .d)) { nx := fun Γ => ∃ ms', Γ[0]? = some (.own a ms') ∧ R ms ds (.ok .none) ms', rt := fun d Γ => ∃ ms', Γ[0]? = some (.own a ms') ∧ R ms ds (.ok d) ms' }) :
    FnG P w K mg base (L2.CX P w) (k + 1) f fd ps (spP n pre R) := by
  refine Fun.okG F S (fun vs H Q E h => ?_) (fun cdv A outer s H vs Q E hr hgd h => ?_)
  · obtain ⟨Hs, a, pv, ws, ms, ds, rfl, _, _, _, _, d, l, _⟩ := h
    rw [List.length_cons, d.len, l, hn]
  · obtain ⟨Hs, a, pv, ws, ms, ds, rfl, sub, na, ha, dp, dv, l, hp, q⟩ := h
    have tk := takes_of (X := cxOf (L2.CX P w) P w K mg base N qual (defScope st) f cdv A outer s H E) (E := E) rfl rfl rfl rfl
    -- all but the list
    generalize hG : (fun b => if b = a then none else H b : Hp) = G
    have Ga : G a = none := by rw [← hG]; exact if_pos rfl
    have Gb : ∀ b, b ≠ a → G b = H b := fun b hb => by rw [← hG]; exact if_neg hb
    have GH : Same G H := fun b o e => by
      by_cases z : b = a
      · rw [z, Ga] at e; cases e
      · rw [← Gb b z]; exact e
    have S0 : Sx ⟨G, Hs, []⟩ Hs (L2.start N (.ref a :: ws)) H (slots0 N (.own a ms :: ds.map .d)) := by
      refine ⟨GH, Grow.refl _ _, sub, ?_, fun i t h => ?_, fun i j b es c fs h1 h2 n => ?_, tabs_nil⟩
      · show ((V.ref a :: ws).map some ++ List.replicate _ none).length = ((Sl.own a ms :: ds.map Sl.d) ++ _).length
        simp only [List.length_append, List.length_map, List.length_replicate, List.length_cons, dv.len]
      · rcases slots_get h with rfl | h
        · exact trivial
        · cases i with
          | zero =>
            have e : t = .own a ms := (Option.some.inj h).symm
            subst e
            exact ⟨start_get rfl, Ga, na, pv, ha, dp⟩
          | succ i =>
            obtain ⟨d, e, rfl⟩ := map_get (show (ds.map Sl.d)[i]? = some t from h)
            obtain ⟨v, ev, q⟩ := dvs_get dv e
            exact ⟨v, start_get (show (V.ref a :: ws)[i + 1]? = some v from ev), q⟩
      · rcases slots_get h1 with z | z
        · cases z
        · cases i with
          | succ i =>
            obtain ⟨d, _, z⟩ := map_get (show (ds.map Sl.d)[i]? = _ from z)
            cases z
          | zero =>
            rcases slots_get h2 with z2 | z2
            · cases z2
            · cases j with
              | zero => exact absurd rfl n
              | succ j =>
                obtain ⟨d, _, z⟩ := map_get (show (ds.map Sl.d)[j]? = _ from z2)
                cases z
    have fin : ∀ {Γ : List Sl} {Hs' : Hp} {σ' : L2.St} {H' : Hp} {ms' : List PyData}, Sx ⟨G, Hs, []⟩ Hs' σ' H' Γ → Γ[0]? = some (.own a ms') → (∀ b u, H b = some u → b ≠ a → H' b = some u) ∧ Grow H Hs Hs' ∧ ∃ pv', H' a = some (.lst pv') ∧ DvAll Hs' pv' ms' := fun {Γ Hs' σ' H' ms'} T e => by
      obtain ⟨_, _, n', pv', h', d'⟩ := T.lst e
      refine ⟨fun b u eb nb => T.fr b u ((Gb b nb).trans eb), ⟨T.gr.same, fun b nb fb => ?_⟩, pv', h', d'⟩
      by_cases z : b = a
      · rw [z]
        exact n'
      · exact T.gr.off b nb (by show G b ≠ none; rw [Gb b z]; exact fb)
    refine ⟨_, pss_W, body cdv A outer s H E ⟨G, Hs, []⟩ a ms ds l hp ⟨⟨hr, hgd, sm⟩, S.nd, rfl, PassesOwn.leaving⟩ ⟨_, tk, fun C d Γ v Hs' σ' H' e T dvv dd hdd => ?_⟩ _ Hs _ H ⟨fun Γ Hs' σ' H' e _ T => ?_, fun d Γ v Hs' σ' H' e _ T dvv => ?_, fun _ _ _ _ z => z.elim, fun _ _ _ _ z => z.elim⟩ S0⟩
    · obtain ⟨ms', e0, r⟩ := e
      obtain ⟨k1, k2, pv', h', d'⟩ := fin T e0
      exact q (.up C d) ms' r v Hs' H' pv' k1 T.sub k2 h' d' dvv dd hdd
    · obtain ⟨ms', e0, r⟩ := e
      obtain ⟨k1, k2, pv', h', d'⟩ := fin T e0
      exact q (.ok .none) ms' r .non Hs' H' pv' k1 T.sub k2 h' d' .non
    · obtain ⟨ms', e0, r⟩ := e
      obtain ⟨k1, k2, pv', h', d'⟩ := fin T e0
      exact q (.ok d) ms' r v Hs' H' pv' k1 T.sub k2 h' d' dvv
end
/-! ### calls -/
section
variable {B : Bas} {X : Cx} {Γ : List Sl} {pos : Pos} {k j n : Nat} {E : DE}
theorem run_fnGS {CX : CXT} {f : Addr} {fd : FuncData} {ps : List Str} {sp : Sp} {pins : List (Addr × Obj)} {σ : L2.St} {H : Hp} {s : Shared} {Q : VK} {E : XK}
    {us : List Value} {vs : List V} (F : FnG X.prog X.w X.K X.mg X.base CX k f fd ps sp)
    (hr : Room k X.A) (hgd : X.A.guards = some []) (hb : Binds X.K fd ps [])
    (hx : PassesAt CX X σ E) (I : Inv X pins σ H s) (r : Vals vs us) (h : sp vs H Q E) :
    wpAny (model X.prog X.w) X.A (call (.ref f) us) (EP X pins σ Q) X.xe s := by
  have hl : us.length = ps.length := r.length ▸ F.len _ _ _ _ h
  have b := hb s us I.kIn (by rw [List.append_nil]; exact hl)
  rw [List.append_nil] at b
  have main := F.run X.A X.stack s H ⟨us, []⟩ us vs Q E hr hgd I.env0 b r h
  refine wpAny_call (codeAny_mono main ?_)
  intro res s' hq
  cases res with
  | error er => exact hx pins H s er s' I hq
  | ok fl =>
    cases fl with
    | ret u => exact I.after hq
    | next | brk | cont => exact False.elim hq
/-- a call by the def's name, its arguments some values -/
theorem call_W {x : Str} {p : Pos} {e : Expr} {es : List Expr} {ps : List Str} {sp : Sp} {W : WX} (F : Call X.prog X.w X.K X.mg X.base (L2.CX X.prog X.w) j x ps sp) (c : Cxt X k) (hj : j ≤ k) (hg : Gl X x) (tk : Takes X W)
    (hdb : (x == ("__debug__" : Str)) = false) (he : starEach (e :: es) X.env = (false, eval e X.env) :: starEach es X.env) (hpl : (backTo pos (starEach es X.env)).any (·.1) = false)
    {σ : L2.St} {H : Hp} {Q : VK} (h : taW X (e :: es) σ H fun vs H1 => sp vs H1 Q fun cl d H' => W cl d σ H') : teW X (.Call (.Name x p) (e :: es) [] pos) σ H Q := teI fun pins s I => by
  obtain ⟨f, fd, G, hm, hk, hb⟩ := F.ex
  refine wpAny_Call_Name_kw (ld_glob I hg hm ?_ hdb)
  refine PySem.W.callWith_K (h₀ := X.base) I.ok.mod.kin hk (thn (taE h pos pins s I) ?_) he hpl
  rintro us s1 ⟨vs, H1, I1, r, q⟩
  exact ⟨I1.kIn, run_fnGS G (c.room.mono hj) c.gd hb (fun pins H s e s' I c => tk e s' (XE.of_call I (fun _ _ _ h => h) c)) I1 r q⟩
/-- a def of data is called -/
theorem ge_call {x : Str} {p : Pos} {e : Expr} {es : List Expr} {ps : List Str} {pre : List PyData → Prop} {f : List PyData → Out} {ψ : Addr → PyData → List Sl → Prop} {φ : PyData → List Sl → Prop} (F : Call X.prog X.w X.K X.mg X.base (L2.CX X.prog X.w) j x ps (spF n pre f)) (c : Cxt X k) (hj : j ≤ k) (hg : Gl X x) (ex : Exc B X ψ)
    (h : GA B X (e :: es) Γ fun ds Γ1 => ds.length = n ∧ pre ds ∧ (f ds).to (fun d => φ d Γ1) (fun C d => ψ C d Γ1)) (hdb : (x == ("__debug__" : Str)) = false := by decide)
    (he : starEach (e :: es) X.env = (false, eval e X.env) :: starEach es X.env := by rfl) (hpl : (backTo pos (starEach es X.env)).any (·.1) = false := by rfl) : GE B X (.Call (.Name x p) (e :: es) [] pos) Γ φ := fun Hs σ H Q S g => by
  obtain ⟨W, tk, hW⟩ := ex
  refine call_W F c hj hg tk hdb he hpl (h Hs σ H _ S fun ds Γ1 vs Hs1 H1 ⟨l, hp, q⟩ s1 S1 dv => ⟨Hs1, ds, S1.sub, dv, l, hp, fun v Hs2 H2 k1 k2 k3 => ?_⟩)
  obtain ⟨s2, S2⟩ := S1.step k3 k1 k2
  cases e : f ds with
  | ok d =>
    rw [e] at q
    exact fun dd => g d Γ1 v Hs2 H2 q (s1.trans s2) S2 dd
  | up C d =>
    rw [e] at q
    exact fun dvv dd hdd => hW C d Γ1 v Hs2 σ H2 q S2 dvv dd hdd
/-- a def of a list that it changes is called: the list stands in the i-th slot -/
theorem ge_pail (i : Nat) {x y : Str} {p py : Pos} {es : List Expr} {ps : List Str} {a : Addr} {ms0 : List PyData} {pre : List PyData → List PyData → Prop} {R : List PyData → List PyData → Out → List PyData → Prop} {ψ : Addr → PyData → List Sl → Prop} {φ : PyData → List Sl → Prop} (F : Call X.prog X.w X.K X.mg X.base (L2.CX X.prog X.w) j x ps (spP n pre R)) (c : Cxt X k) (hj : j ≤ k) (hg : Gl X x) (ex : Exc B X ψ)
    (hN : X.N[i]? = some y) (hv : Vis X.env.scope y) (hΓ : Γ[i]? = some (.own a ms0))
    (h : GA B X es Γ fun ds Γ1 => ∃ ms, Γ1[i]? = some (.own a ms) ∧ ds.length = n ∧ pre ms ds ∧ ∀ o ms', R ms ds o ms' → o.to (fun d => φ d (Γ1.set i (.own a ms'))) (fun C d => ψ C d (Γ1.set i (.own a ms')))) (hdb : (x == ("__debug__" : Str)) = false := by decide)
    (hd : (y == ("__debug__" : Str)) = false := by decide) (hcd : (y == ("__classdict__" : Str)) = false := by decide)
    (he : starEach (.Name y py :: es) X.env = (false, eval (.Name y py) X.env) :: starEach es X.env := by rfl) (hpl : (backTo pos (starEach es X.env)).any (·.1) = false := by rfl) : GE B X (.Call (.Name x p) (.Name y py :: es) [] pos) Γ φ := fun Hs σ H Q S g => by
  obtain ⟨W, tk, hW⟩ := ex
  obtain ⟨e0, _⟩ := S.lst hΓ
  refine call_W F c hj hg tk hdb he hpl (pa_of (pa_cons (pe_var hN hv hd hcd) pa_W he) ⟨_, e0, h Hs σ H _ S fun ds Γ1 vs Hs1 H1 ⟨ms, g1, l, hp, q⟩ s1 S1 dv => ?_⟩)
  obtain ⟨_, f1, n1, pv, h1, d1⟩ := S1.lst g1
  refine ⟨Hs1, a, pv, vs, ms, ds, rfl, S1.sub, n1, h1, d1, dv, l, hp, fun o ms' r v Hs2 H2 pv' k1 k2 k3 h2 d2 => ?_⟩
  have q := q o ms' r
  have kk : ∀ b, B.fr b ≠ none → H1 b ≠ none := fun b hb => by
    cases z : B.fr b with
    | none => exact absurd z hb
    | some u => rw [S1.fr b u z]; exact fun z => nomatch z
  have S2 : Sx B Hs2 σ H2 (Γ1.set i (.own a ms')) := by
    refine ⟨fun b u e => k1 b u (S1.fr b u e) (fun z => by rw [z, f1] at e; cases e), S1.gr.trans (k3.mono kk), k2, by rw [List.length_set]; exact S1.len, fun j' t ej => ?_, fun j' l' b fs c' gs e1 e2 ne => ?_, tabs_pail S1.tb h1 k1 k3⟩
    · rcases get_set ej with ⟨rfl, rfl⟩ | ⟨nj, ej⟩
      · exact ⟨(S1.lst g1).1, f1, k3.off a n1 (by rw [h1]; exact fun z => nomatch z), pv', h2, d2⟩
      · refine (S1.sl j' t ej).mono k3.same fun b fs z => ?_
        subst z
        obtain ⟨_, _, nb, vb, hb, _⟩ := S1.lst ej
        exact ⟨k3.off b nb (by rw [hb]; exact fun z => nomatch z), (k1 b _ hb (S1.ap j' i b fs a ms ej g1 nj)).trans hb.symm⟩
    · rcases get_set e1 with ⟨rfl, z⟩ | ⟨m1, d1⟩
      · cases z
        rcases get_set e2 with ⟨rfl, z⟩ | ⟨m2, d2⟩
        · exact absurd rfl ne
        · exact (S1.ap l' j' c' gs a ms d2 g1 m2).symm
      · rcases get_set e2 with ⟨rfl, z⟩ | ⟨m2, d2⟩
        · cases z
          exact S1.ap j' l' b fs a ms d1 g1 m1
        · exact S1.ap j' l' b fs c' gs d1 d2 ne
  cases o with
  | ok d => exact fun dd => g d _ v Hs2 H2 q (s1.trans k3.same) S2 dd
  | up C d => exact fun dvv dd hdd => hW C d _ v Hs2 σ H2 q S2 dvv dd hdd
end
end Px
/-! zip of a list and a tuple, either way round. -/
namespace Tz
open PySem PySem.Spec PyProof.Rows L2
/-- a list (k), else a tuple; its iterator -/
def Seq2 (k : Bool) (h : Heap) (a : Addr) (xs : Array Value) : Prop := match k with
  | true => h.IsList a xs
  | false => h.IsTuple a xs
def Run2 (k : Bool) (h : Heap) (it a : Addr) (i : Nat) : Prop := match k with
  | true => h.IsListIter it a i
  | false => h.IsTupleIter it a i
theorem Seq2.but {k : Bool} {h h' : Heap} {a b : Addr} {xs : Array Value} (q : Seq2 k h a xs) (s : Heap.ExtBut b h h') (n : a ≠ b) : Seq2 k h' a xs := by
  cases k with
  | true => exact Heap.IsList.extBut q s n
  | false => exact Heap.IsTuple.extBut q s n
theorem Run2.but {k : Bool} {h h' : Heap} {it a b : Addr} {i : Nat} (q : Run2 k h it a i) (s : Heap.ExtBut b h h') (n : it ≠ b) : Run2 k h' it a i := by
  cases k with
  | true => exact Heap.IsListIter.extBut q s n
  | false => exact Heap.IsTupleIter.extBut q s n
theorem Run2.on {k : Bool} {h h' : Heap} {it a : Addr} {i : Nat} (q : Run2 k h it a i) (s : ∀ o, h.get? it = some o → h'.get? it = some o) : Run2 k h' it a i := by
  cases k with
  | true => exact Heap.IsListIter.at q s
  | false => exact Heap.IsTupleIter.at q s
theorem Run2.obj {k : Bool} {h : Heap} {it a : Addr} {i : Nat} (q : Run2 k h it a i) : ∃ o vs, h.get? it = some o ∧ o.data = .fields vs := by
  cases k with
  | true =>
    obtain ⟨o, e, _, d⟩ := q
    exact ⟨o, _, e, d⟩
  | false =>
    obtain ⟨o, e, _, d⟩ := q
    exact ⟨o, _, e, d⟩
theorem Run2.lt {k : Bool} {h : Heap} {it a : Addr} {i : Nat} (q : Run2 k h it a i) : it < h.objs.size := by
  obtain ⟨o, _, e, _⟩ := q.obj
  exact Heap.lt_size e
section
variable {prog : Program} {w : World} {A : Around} {E : Value → Shared → Prop} {s : Shared} {k kk : Bool}
theorem step_one {it a : Addr} {i : Nat} {xs : Array Value} {x : Value} {Q : Value → Shared → Prop} (r : Run2 k s.heap it a i) (q : Seq2 k s.heap a xs) (e : xs[i]? = some x)
    (g : ∀ h', Run2 k h' it a (i + 1) → Heap.SameBut it s.heap h' → Q x { s with heap := h' }) : wpAny (model prog w) A (Builtin.SmallTypes.nextOf (.ref it)) Q E s := by
  cases k with
  | true => exact wpAny_nextOf_list_item r q e g
  | false => exact RZ.nextOf_tuple_item r q e g
theorem step_end {it a : Addr} {i : Nat} {xs : Array Value} {Q : Value → Shared → Prop} (hh : A.handled = none) (r : Run2 k s.heap it a i) (q : Seq2 k s.heap a xs) (e : xs[i]? = none)
    (g : ∀ h' x, Heap.ExtBut it s.heap h' → (∃ o, h'.get? x = some o ∧ o.cls = .type "StopIteration") → E (.ref x) { s with heap := h' }) : wpAny (model prog w) A (Builtin.SmallTypes.nextOf (.ref it)) Q E s := by
  cases k with
  | true => exact wpAny_nextOf_list_end hh r q e g
  | false => exact RZ.nextOf_tuple_end hh r q e g
/-- the zip's own things: its object, the pair of its iterators, its own pair -/
structure Own3 (h : Heap) (z ti tp : Addr) (f : Value) (i1 i2 : Addr) (a b : Value) : Prop where
  zip : IsZip h z ti tp f
  its : IsPair h ti (.ref i1) (.ref i2)
  pr : IsPair h tp a b
theorem zip_item {z ti tp i1 i2 l1 l2 : Addr} {j : Nat} {xs ys : Array Value} {x y a b : Value} {Q : Value → Shared → Prop} (P : ZipApart z ti tp i1 i2 l1 l2) (O : Own3 s.heap z ti tp .none i1 i2 a b)
    (r1 : Run2 k s.heap i1 l1 j) (r2 : Run2 kk s.heap i2 l2 j) (q1 : Seq2 k s.heap l1 xs) (q2 : Seq2 kk s.heap l2 ys) (ex : xs[j]? = some x) (ey : ys[j]? = some y)
    (g : ∀ h', IsZip h' z ti tp (rawInt s.heap.objs.size) → IsPair h' tp x y → Run2 k h' i1 l1 (j + 1) → Run2 kk h' i2 l2 (j + 1) → IsPair h' s.heap.objs.size x y → h'.objs.size = s.heap.objs.size + 1 →
      (∀ c o, c ≠ z → c ≠ tp → c ≠ i1 → c ≠ i2 → s.heap.get? c = some o → h'.get? c = some o) → Q (.ref s.heap.objs.size) { s with heap := h' }) :
    wpAny (model prog w) A (Builtin.«zip.__next__» ⟨[.ref z], []⟩) (fun fin s' => ∃ v, fin = .done (.ret v) ∧ Q v s') E s := by
  have Z := O.zip
  show wpAny _ _ (field (.ref z) 2 >>= fun _ => _) _ _ _
  refine wpAny_bind (wpAny_field (x := .bool false) Z rfl rfl ?_)
  show wpAny _ _ (field (.ref z) 3 >>= fun _ => _) _ _ _
  refine wpAny_bind (wpAny_field (x := .ref ti) Z rfl rfl (wpAny_bind (wpAny_seqItems O.its rfl ?_)))
  show wpAny _ _ (Builtin.SmallTypes.ownedTupleIsFree (.ref z) >>= fun _ => _) _ _ _
  refine wpAny_bind ?_
  unfold Builtin.SmallTypes.ownedTupleIsFree
  refine wpAny_bind (wpAny_field (x := .none) Z rfl rfl (wpAny_pure ?_))
  simp only [if_true]
  refine wpAny_bind (wpAny_rule (wpAny_bind (wpAny_field (x := .ref tp) Z rfl rfl ?_)))
  refine wpAny_bind (wpAny_setField_rec Z (by simp) fun ha (za : IsZip ha z ti tp .ellipsis) sa => ?_)
  refine wpAny_bind ?_
  simp only [List.zipIdx_cons, List.zipIdx_nil, List.forIn_cons, List.forIn_nil]
  -- the first one's item
  refine wpAny_bind (wpAny_bind (wpAny_onRaise ?_))
  show wpAny _ _ (Builtin.SmallTypes.nextOf (.ref i1) >>= fun _ => _) _ _ _
  refine wpAny_bind (step_one (r1.but sa.extBut P.i1z) (q1.but sa.extBut P.l1z) ex fun hb rb sb => wpAny_pure ?_)
  have pb : IsPair hb tp a b := sb.extBut _ _ P.TOi1 (sa.extBut _ _ P.TOz O.pr)
  refine wpAny_bind (wpAny_seqItems pb rfl (wpAny_bind (wpAny_updateSeq_pair pb fun hc (pc : IsPair hc tp x b) sc => wpAny_bind (wpAny_letGo (wpAny_pure ?_)))))
  -- the second one's item
  refine wpAny_bind (wpAny_bind (wpAny_onRaise ?_))
  show wpAny _ _ (Builtin.SmallTypes.nextOf (.ref i2) >>= fun _ => _) _ _ _
  have r2c : Run2 kk hc i2 l2 j := ((r2.but sa.extBut P.i2z).but sb.extBut P.i12.symm).but sc.extBut P.TOi2.symm
  have q2c : Seq2 kk hc l2 ys := ((q2.but sa.extBut P.l2z).but sb.extBut P.l2i1).but sc.extBut P.l2TO
  refine wpAny_bind (step_one r2c q2c ey fun hd rd sd => wpAny_pure ?_)
  have pd : IsPair hd tp x b := sd.extBut _ _ P.TOi2 pc
  refine wpAny_bind (wpAny_seqItems pd rfl (wpAny_bind (wpAny_updateSeq_pair pd fun he (pe : IsPair he tp x y) se => wpAny_bind (wpAny_letGo (wpAny_pure (wpAny_pure ?_))))))
  -- the pair is handed out
  refine wpAny_bind (wpAny_seqItems pe rfl (wpAny_bind (wpAny_newTuple ?_)))
  have size : he.objs.size = s.heap.objs.size := by rw [se.1, sd.1, sc.1, sb.1, sa.1]
  have ze : IsZip he z ti tp .ellipsis := se.extBut _ _ P.TOz.symm (sd.extBut _ _ P.i2z.symm (sc.extBut _ _ P.TOz.symm (sb.extBut _ _ P.i1z.symm za)))
  have keep : ∀ c o, c ≠ z → c ≠ tp → c ≠ i1 → c ≠ i2 → s.heap.get? c = some o → he.get? c = some o := fun c o n1 n2 n3 n4 e => se.extBut _ _ n2 (sd.extBut _ _ n4 (sc.extBut _ _ n2 (sb.extBut _ _ n3 (sa.extBut _ _ n1 e))))
  have r1e : Run2 k he i1 l1 (j + 1) := ((rb.but sc.extBut P.TOi1.symm).but sd.extBut P.i12).but se.extBut P.TOi1.symm
  have r2e : Run2 kk he i2 l2 (j + 1) := rd.but se.extBut P.TOi2.symm
  have zlt : z < he.objs.size := Heap.lt_size ze
  show wpAny _ _ (Builtin.SmallTypes.ownedTupleHandOut (.ref z) (.ref he.objs.size) >>= fun _ => _) _ _ _
  refine wpAny_bind ?_
  unfold Builtin.SmallTypes.ownedTupleHandOut
  have zf : IsZip (he.push { cls := .type "tuple", data := .seq #[x, y] }) z ti tp .ellipsis := Heap.get?_push_of_some _ ze
  refine wpAny_bind (wpAny_setField_rec zf (by simp) fun hg (zg : IsZip hg z ti tp (rawInt he.objs.size)) sg => ?_)
  refine wpAny_setField_rec zg (by simp) fun hk (zk : IsZip hk z ti tp (rawInt he.objs.size)) sk => ?_
  have late : ∀ c o, c ≠ z → he.get? c = some o → hk.get? c = some o := fun c o n e => sk.extBut _ _ n (sg.extBut _ _ n (Heap.get?_push_of_some _ e))
  have pk : IsPair hk he.objs.size x y := sk.extBut _ _ (Nat.ne_of_gt zlt) (sg.extBut _ _ (Nat.ne_of_gt zlt) (Heap.get?_push_size _ rfl))
  have size2 : hk.objs.size = he.objs.size + 1 := by rw [sk.1, sg.1, Heap.size_push]
  rw [size] at zk pk size2
  refine wpAny_pure ⟨_, rfl, ?_⟩
  show Q (.ref he.objs.size) _
  rw [size]
  exact g hk zk (late _ _ P.TOz pe) (r1e.on fun o e => late _ o P.i1z e) (r2e.on fun o e => late _ o P.i2z e) pk size2 fun c o n1 n2 n3 n4 e => late c o n1 (keep c o n1 n2 n3 n4 e)
theorem zip_done {z ti tp i1 i2 l1 l2 : Addr} {j : Nat} {xs ys : Array Value} {a b : Value} {Q : Fin → Shared → Prop} (hh : A.handled = none) (P : ZipApart z ti tp i1 i2 l1 l2) (O : Own3 s.heap z ti tp .none i1 i2 a b)
    (r1 : Run2 k s.heap i1 l1 j) (r2 : Run2 kk s.heap i2 l2 j) (q1 : Seq2 k s.heap l1 xs) (q2 : Seq2 kk s.heap l2 ys) (over : xs[j]? = none ∨ ys[j]? = none)
    (g : ∀ h' e, (∀ c o, c ≠ z → c ≠ tp → c ≠ i1 → c ≠ i2 → s.heap.get? c = some o → h'.get? c = some o) → (∃ o, h'.get? e = some o ∧ o.cls = .type "StopIteration") → E (.ref e) { s with heap := h' }) :
    wpAny (model prog w) A (Builtin.«zip.__next__» ⟨[.ref z], []⟩) Q E s := by
  have Z := O.zip
  show wpAny _ _ (field (.ref z) 2 >>= fun _ => _) _ _ _
  refine wpAny_bind (wpAny_field (x := .bool false) Z rfl rfl ?_)
  show wpAny _ _ (field (.ref z) 3 >>= fun _ => _) _ _ _
  refine wpAny_bind (wpAny_field (x := .ref ti) Z rfl rfl (wpAny_bind (wpAny_seqItems O.its rfl ?_)))
  show wpAny _ _ (Builtin.SmallTypes.ownedTupleIsFree (.ref z) >>= fun _ => _) _ _ _
  refine wpAny_bind ?_
  unfold Builtin.SmallTypes.ownedTupleIsFree
  refine wpAny_bind (wpAny_field (x := .none) Z rfl rfl (wpAny_pure ?_))
  simp only [if_true]
  refine wpAny_bind (wpAny_rule (wpAny_bind (wpAny_field (x := .ref tp) Z rfl rfl ?_)))
  refine wpAny_bind (wpAny_setField_rec Z (by simp) fun ha (za : IsZip ha z ti tp .ellipsis) sa => ?_)
  refine wpAny_bind ?_
  simp only [List.zipIdx_cons, List.zipIdx_nil, List.forIn_cons, List.forIn_nil]
  refine wpAny_bind (wpAny_bind (wpAny_onRaise ?_))
  show wpAny _ _ (Builtin.SmallTypes.nextOf (.ref i1) >>= fun _ => _) _ _ _
  have r1a := r1.but sa.extBut P.i1z
  have q1a := q1.but sa.extBut P.l1z
  cases ex : xs[j]? with
  | none =>
    refine wpAny_bind (step_end hh r1a q1a ex fun hb e sb ⟨oe, he, ce⟩ => ?_)
    have zb : IsZip hb z ti tp .ellipsis := sb _ _ P.i1z.symm za
    have ne : e ≠ z := by
      rintro rfl
      rw [zb] at he
      cases he
      simp at ce
    exact wpAny_setField_rec zb (by simp) fun hc _ sc => g hc e (fun c o n1 _ n3 _ x => sc.extBut _ _ n1 (sb _ _ n3 (sa.extBut _ _ n1 x))) ⟨oe, sc.extBut _ _ ne he, ce⟩
  | some x =>
    have ey : ys[j]? = none := over.resolve_left fun z => by rw [ex] at z; cases z
    refine wpAny_bind (step_one r1a q1a ex fun hb rb sb => wpAny_pure ?_)
    have pb : IsPair hb tp a b := sb.extBut _ _ P.TOi1 (sa.extBut _ _ P.TOz O.pr)
    refine wpAny_bind (wpAny_seqItems pb rfl (wpAny_bind (wpAny_updateSeq_pair pb fun hc _ sc => wpAny_bind (wpAny_letGo (wpAny_pure ?_)))))
    refine wpAny_bind (wpAny_bind (wpAny_onRaise ?_))
    show wpAny _ _ (Builtin.SmallTypes.nextOf (.ref i2) >>= fun _ => _) _ _ _
    have r2c : Run2 kk hc i2 l2 j := ((r2.but sa.extBut P.i2z).but sb.extBut P.i12.symm).but sc.extBut P.TOi2.symm
    have q2c : Seq2 kk hc l2 ys := ((q2.but sa.extBut P.l2z).but sb.extBut P.l2i1).but sc.extBut P.l2TO
    refine wpAny_bind (step_end hh r2c q2c ey fun hd e sd ⟨oe, he, ce⟩ => ?_)
    have zd : IsZip hd z ti tp .ellipsis := sd _ _ P.i2z.symm (sc.extBut _ _ P.TOz.symm (sb.extBut _ _ P.i1z.symm za))
    have ne : e ≠ z := by
      rintro rfl
      rw [zd] at he
      cases he
      simp at ce
    exact wpAny_setField_rec zd (by simp) fun hf _ sf => g hf e (fun c o n1 n2 n3 n4 x => sf.extBut _ _ n1 (sd _ _ n4 (sc.extBut _ _ n2 (sb.extBut _ _ n3 (sa.extBut _ _ n1 x))))) ⟨oe, sf.extBut _ _ ne he, ce⟩
theorem next_one {z ti tp i1 i2 l1 l2 : Addr} {j : Nat} {xs ys : Array Value} {x y a b : Value} {Q : Option Value → Shared → Prop} (P : ZipApart z ti tp i1 i2 l1 l2) (O : Own3 s.heap z ti tp .none i1 i2 a b)
    (r1 : Run2 k s.heap i1 l1 j) (r2 : Run2 kk s.heap i2 l2 j) (q1 : Seq2 k s.heap l1 xs) (q2 : Seq2 kk s.heap l2 ys) (ex : xs[j]? = some x) (ey : ys[j]? = some y)
    (g : ∀ h', IsZip h' z ti tp (rawInt s.heap.objs.size) → IsPair h' tp x y → Run2 k h' i1 l1 (j + 1) → Run2 kk h' i2 l2 (j + 1) → IsPair h' s.heap.objs.size x y → h'.objs.size = s.heap.objs.size + 1 →
      (∀ c o, c ≠ z → c ≠ tp → c ≠ i1 → c ≠ i2 → s.heap.get? c = some o → h'.get? c = some o) → Q (some (.ref s.heap.objs.size)) { s with heap := h' }) : wpAny (model prog w) A (pyNext (.ref z)) Q E s := by
  have T : s.TypeIs (.ref z) "zip" := ⟨_, O.zip, rfl⟩
  have one := zip_item (prog := prog) (w := w) (A := A.in1) (E := fun _ _ => False) (Q := fun v s' => v = .ref s.heap.objs.size ∧ Q (some v) s') P O r1 r2 q1 q2 ex ey fun h' a1 a2 a3 a4 a5 a6 a7 => ⟨rfl, g h' a1 a2 a3 a4 a5 a6 a7⟩
  unfold pyNext
  refine wpAny_bind (wpAny_attempt (wpAny_callSpecial?_slot (name := Str.ofString "__next__") T F.slot_zip_next (wpAny_call_entry F.slot_zip_next T F.entry_zip_next (zip_item P O r1 r2 q1 q2 ex ey fun h' a1 a2 a3 a4 a5 a6 a7 => ?_) (F.args_zip_next_1 _))))
  exact wpAny_pure (g h' a1 a2 a3 a4 a5 a6 a7)
theorem next_none {z ti tp i1 i2 l1 l2 : Addr} {j : Nat} {xs ys : Array Value} {a b : Value} {Q : Option Value → Shared → Prop} (hh : A.handled = none) (P : ZipApart z ti tp i1 i2 l1 l2) (O : Own3 s.heap z ti tp .none i1 i2 a b)
    (r1 : Run2 k s.heap i1 l1 j) (r2 : Run2 kk s.heap i2 l2 j) (q1 : Seq2 k s.heap l1 xs) (q2 : Seq2 kk s.heap l2 ys) (over : xs[j]? = none ∨ ys[j]? = none)
    (g : ∀ h', (∀ c o, c ≠ z → c ≠ tp → c ≠ i1 → c ≠ i2 → s.heap.get? c = some o → h'.get? c = some o) → Q none { s with heap := h' }) : wpAny (model prog w) A (pyNext (.ref z)) Q E s := by
  have T : s.TypeIs (.ref z) "zip" := ⟨_, O.zip, rfl⟩
  unfold pyNext
  refine wpAny_bind (wpAny_attempt (wpAny_callSpecial?_slot (name := Str.ofString "__next__") T F.slot_zip_next (wpAny_call_entry F.slot_zip_next T F.entry_zip_next (zip_done hh P O r1 r2 q1 q2 over fun h' e keep ⟨o, ho, ce⟩ => ?_) (F.args_zip_next_1 _))))
  exact wpAny_bind (wpAny_isInstance (T := "StopIteration") (b := true) ⟨o, ho, ce⟩ isSubtype_stop (wpAny_pure (g h' keep)))
end
/-! ### made -/
def iterO (k : Bool) (a : Addr) : Obj := { cls := .type (if k = true then "list_iterator" else "tuple_iterator"), data := .fields #[.ref a, .int 0 0] }
def h1 (k : Bool) (h : Heap) (a : Addr) : Heap := h.push (iterO k a)
def h2 (k kk : Bool) (h : Heap) (a b : Addr) : Heap := (h1 k h a).push (iterO kk b)
def h3 (k kk : Bool) (h : Heap) (a b : Addr) : Heap := (h2 k kk h a b).push { cls := .type "tuple", data := .seq #[.ref h.objs.size, .ref (h1 k h a).objs.size] }
def h4 (k kk : Bool) (h : Heap) (a b : Addr) : Heap := (h3 k kk h a b).push { cls := .type "tuple", data := .seq #[.none, .none] }
def h5 (k kk : Bool) (h : Heap) (a b : Addr) : Heap := (h4 k kk h a b).push { cls := .type "zip", data := .fields #[.none, .bool false, .bool false, .ref (h2 k kk h a b).objs.size, .ref (h3 k kk h a b).objs.size] }
theorem new_lt (a b : Addr) (xs ys : Array Value) : Meets (Builtin.«zip.__new__» ⟨[.type "zip", .ref a, .ref b], []⟩) (fun _ R s => s.heap.IsList a xs ∧ s.heap.IsTuple b ys ∧ R (.ok (.ret (.ref (h4 true false s.heap a b).objs.size))) { s with heap := h5 true false s.heap a b }) := .of_wp fun prog w A R s h => by
  obtain ⟨hp, gs, dr, tk, os⟩ := s
  obtain ⟨q1, q2, h⟩ := h
  have sub := sub_zip
  have q1 : Heap.IsList (Shared.heap ⟨hp, gs, dr, tk, os⟩) a xs := q1
  have q2 : Heap.IsTuple (Shared.heap ⟨hp.push { cls := .type "list_iterator", data := .fields #[.ref a, .int 0 0] }, gs, dr, tk, os⟩) b ys := Heap.IsTuple.push q2 _
  wp_walk using wpAny_pyIter_list q1, wpAny_pyIter_tuple q2
  exact ⟨_, rfl, h⟩
theorem new_tl (a b : Addr) (xs ys : Array Value) : Meets (Builtin.«zip.__new__» ⟨[.type "zip", .ref a, .ref b], []⟩) (fun _ R s => s.heap.IsTuple a xs ∧ s.heap.IsList b ys ∧ R (.ok (.ret (.ref (h4 false true s.heap a b).objs.size))) { s with heap := h5 false true s.heap a b }) := .of_wp fun prog w A R s h => by
  obtain ⟨hp, gs, dr, tk, os⟩ := s
  obtain ⟨q1, q2, h⟩ := h
  have sub := sub_zip
  have q1 : Heap.IsTuple (Shared.heap ⟨hp, gs, dr, tk, os⟩) a xs := q1
  have q2 : Heap.IsList (Shared.heap ⟨hp.push { cls := .type "tuple_iterator", data := .fields #[.ref a, .int 0 0] }, gs, dr, tk, os⟩) b ys := Heap.IsList.push q2 _
  wp_walk using wpAny_pyIter_tuple q1, wpAny_pyIter_list q2
  exact ⟨_, rfl, h⟩
section
variable {prog : Program} {w : World} {A : Around} {E : Value → Shared → Prop} {s : Shared}
theorem made (k kk : Bool) (h : Heap) (a b : Addr) : (h4 k kk h a b).objs.size = h.objs.size + 4 ∧ IsZip (h5 k kk h a b) (h.objs.size + 4) (h.objs.size + 2) (h.objs.size + 3) .none ∧ IsPair (h5 k kk h a b) (h.objs.size + 2) (.ref h.objs.size) (.ref (h.objs.size + 1)) ∧
    IsPair (h5 k kk h a b) (h.objs.size + 3) .none .none ∧ Run2 k (h5 k kk h a b) h.objs.size a 0 ∧ Run2 kk (h5 k kk h a b) (h.objs.size + 1) b 0 ∧ ∀ c o, h.get? c = some o → (h5 k kk h a b).get? c = some o := by
  have s1 : (h1 k h a).objs.size = h.objs.size + 1 := Heap.size_push ..
  have s2 : (h2 k kk h a b).objs.size = h.objs.size + 2 := (Heap.size_push ..).trans (by rw [s1])
  have s3 : (h3 k kk h a b).objs.size = h.objs.size + 3 := (Heap.size_push ..).trans (by rw [s2])
  have s4 : (h4 k kk h a b).objs.size = h.objs.size + 4 := (Heap.size_push ..).trans (by rw [s3])
  have u1 : ∀ c o, h.get? c = some o → (h1 k h a).get? c = some o := fun c o e => Heap.get?_push_of_some _ e
  have u2 : ∀ c o, (h1 k h a).get? c = some o → (h2 k kk h a b).get? c = some o := fun c o e => Heap.get?_push_of_some _ e
  have u3 : ∀ c o, (h2 k kk h a b).get? c = some o → (h3 k kk h a b).get? c = some o := fun c o e => Heap.get?_push_of_some _ e
  have u4 : ∀ c o, (h3 k kk h a b).get? c = some o → (h4 k kk h a b).get? c = some o := fun c o e => Heap.get?_push_of_some _ e
  have u5 : ∀ c o, (h4 k kk h a b).get? c = some o → (h5 k kk h a b).get? c = some o := fun c o e => Heap.get?_push_of_some _ e
  have g1 : (h1 k h a).get? h.objs.size = some (iterO k a) := Heap.get?_push_size _ rfl
  have g2 : (h2 k kk h a b).get? (h.objs.size + 1) = some (iterO kk b) := by rw [← s1]; exact Heap.get?_push_size _ rfl
  have g3 : IsPair (h3 k kk h a b) (h.objs.size + 2) (.ref h.objs.size) (.ref (h.objs.size + 1)) := by
    rw [← s2, ← s1]
    exact Heap.get?_push_size _ rfl
  have g4 : IsPair (h4 k kk h a b) (h.objs.size + 3) .none .none := by
    rw [← s3]
    exact Heap.get?_push_size _ rfl
  have g5 : IsZip (h5 k kk h a b) (h.objs.size + 4) (h.objs.size + 2) (h.objs.size + 3) .none := by
    rw [← s4, ← s3, ← s2]
    exact Heap.get?_push_size _ rfl
  have r1 : (h5 k kk h a b).get? h.objs.size = some (iterO k a) := u5 _ _ (u4 _ _ (u3 _ _ (u2 _ _ g1)))
  have r2 : (h5 k kk h a b).get? (h.objs.size + 1) = some (iterO kk b) := u5 _ _ (u4 _ _ (u3 _ _ g2))
  refine ⟨s4, g5, u5 _ _ (u4 _ _ g3), u5 _ _ g4, ?_, ?_, fun c o e => u5 _ _ (u4 _ _ (u3 _ _ (u2 _ _ (u1 _ _ e))))⟩
  · cases k with
    | true => exact ⟨_, r1, rfl, rfl⟩
    | false => exact ⟨_, r1, rfl, rfl⟩
  · cases kk with
    | true => exact ⟨_, r2, rfl, rfl⟩
    | false => exact ⟨_, r2, rfl, rfl⟩
theorem call_lt {a b : Addr} {xs ys : Array Value} {Q : Value → Shared → Prop} (q1 : s.heap.IsList a xs) (q2 : s.heap.IsTuple b ys) (g : Q (.ref (h4 true false s.heap a b).objs.size) { s with heap := h5 true false s.heap a b }) : wpAny (model prog w) A (call (.type "zip") [.ref a, .ref b]) Q E s :=
  callType_new F.called_zip (by decide) (F.typeCall_zip_2 _ _) (F.newCall_zip_2 _ _) (fun o => F.args_object_init_3 o _ _) F.entry_zip_new (new_lt a b xs ys) ⟨q1, q2, ⟨⟨_, (made true false s.heap a b).1 ▸ (made true false s.heap a b).2.1, rfl⟩, g⟩⟩
theorem call_tl {a b : Addr} {xs ys : Array Value} {Q : Value → Shared → Prop} (q1 : s.heap.IsTuple a xs) (q2 : s.heap.IsList b ys) (g : Q (.ref (h4 false true s.heap a b).objs.size) { s with heap := h5 false true s.heap a b }) : wpAny (model prog w) A (call (.type "zip") [.ref a, .ref b]) Q E s :=
  callType_new F.called_zip (by decide) (F.typeCall_zip_2 _ _) (F.newCall_zip_2 _ _) (fun o => F.args_object_init_3 o _ _) F.entry_zip_new (new_tl a b xs ys) ⟨q1, q2, ⟨⟨_, (made false true s.heap a b).1 ▸ (made false true s.heap a b).2.1, rfl⟩, g⟩⟩
end
end Tz
namespace Tz
open PySem PySem.Spec PyProof.Rows L2
def SqX (k : Bool) (K : PySem.W.Frag) (H : Hp) (a : Addr) (xs : List V) : Prop := match k with
  | true => SqL K H a xs
  | false => SqT K H a xs
/-- the two as they stand at each turn, the items in new pairs -/
def Itm (K : PySem.W.Frag) (k kk : Bool) (a b : Addr) : It :=
  ⟨fun i H => ∃ (us vs : List V) (x y : V), SqX k K H a us ∧ SqX kk K H b vs ∧ us[i]? = some x ∧ vs[i]? = some y,
    fun i H v G => ∃ c x y, v = .ref c ∧ H c = none ∧ G = upd H c (.tup [x, y]) ∧ (∀ us, SqX k K H a us → us[i]? = some x) ∧ ∀ vs, SqX kk K H b vs → vs[i]? = some y,
    fun i H => ∃ us vs : List V, SqX k K H a us ∧ SqX kk K H b vs ∧ (us.length ≤ i ∨ vs.length ≤ i)⟩
section
variable {X : Cx} {pins : List (Addr × Obj)} {σ : L2.St} {H : Hp} {s : Shared} {k kk : Bool}
theorem seq_at {a : Addr} {us : List V} (I : Inv X pins σ H s) (q : SqX k X.K H a us) : ∃ its : List Value, Vals us its ∧ Seq2 k s.heap a its.toArray ∧ a < s.heap.objs.size := by
  cases k with
  | true =>
    obtain ⟨its, r, p, _⟩ := I.list q
    exact ⟨its, r, p.isList, p.lt⟩
  | false =>
    obtain ⟨its, r, p, _⟩ := I.tuple q
    obtain ⟨o, e, _⟩ := id p
    exact ⟨its, r, p, Heap.lt_size e⟩
theorem seq_same {a : Addr} {us vs : List V} (I : Inv X pins σ H s) (q : SqX k X.K H a us) (r : SqX k X.K H a vs) : us = vs := by
  cases k with
  | true => exact I.list_inj q r
  | false => exact I.tuple_inj q r
end
end Tz
/-! zip of two sequences of any kinds, walked. -/
namespace Tz
open PySem PySem.Spec PyProof.Rows L2
def Stands (k kk : Bool) (z ti tp i1 i2 a b : Addr) (i : Nat) (h : Heap) : Prop := IsZip h z ti tp .none ∧ IsPair h ti (.ref i1) (.ref i2) ∧ (∃ x y, IsPair h tp x y) ∧ Run2 k h i1 a i ∧ Run2 kk h i2 b i
theorem five {z ti tp i1 i2 c : Addr} (h : c ∈ [z, ti, tp, i1, i2]) : c = z ∨ c = ti ∨ c = tp ∨ c = i1 ∨ c = i2 := by simpa using h
theorem turn_mixed {P : Program} {w : World} {K : PySem.W.Frag} {elts : List Expr} {n : Nat} {tpos : Pos} {k kk : Bool} {a b z ti tp i1 i2 : Addr} (D : ZipApart z ti tp i1 i2 a b) :
    Turn P w K (.Tuple elts n tpos) (Itm K k kk a b) [z, ti, tp, i1, i2] z (Stands k kk z ti tp i1 i2 a b) where
  mem := .head _
  obj := by
    rintro i h ⟨e1, e2, ⟨x, y, e3⟩, r1, r2⟩ c hc
    obtain ⟨o1, v1, g1, d1⟩ := r1.obj
    obtain ⟨o2, v2, g2, d2⟩ := r2.obj
    rcases five hc with rfl | rfl | rfl | rfl | rfl
    · exact ⟨_, e1, fun _ q => nomatch q⟩
    · exact ⟨_, e2, fun _ q => nomatch q⟩
    · exact ⟨_, e3, fun _ q => nomatch q⟩
    · exact ⟨o1, g1, fun v q => nomatch d1.symm.trans q⟩
    · exact ⟨o2, g2, fun v q => nomatch d2.symm.trans q⟩
  keep := by
    rintro i h h' ⟨e1, e2, ⟨x, y, e3⟩, r1, r2⟩ kp
    exact ⟨kp z (by simp) _ e1, kp ti (by simp) _ e2, ⟨x, y, kp tp (by simp) _ e3⟩, r1.on fun o q => kp i1 (by simp) o q, r2.on fun o q => kp i2 (by simp) o q⟩
  item := by
    rintro X hP hw hK hc i pins s σ H E I hf ⟨e1, e2, ⟨x0, y0, e3⟩, r1, r2⟩ ⟨us, vs, x, y, qa, qb, hx, hy⟩
    subst hP hw hK
    obtain ⟨ia, va, sa, la⟩ := seq_at I qa
    obtain ⟨ib, vb, sb, lb⟩ := seq_at I qb
    obtain ⟨u, hu, ru⟩ := va.get hx
    obtain ⟨u2, hu2, ru2⟩ := vb.get hy
    have zl : z < s.heap.objs.size := Heap.lt_size e1
    refine next_one D ⟨e1, e2, e3⟩ r1 r2 sa sb (x := u) (y := u2) (by simpa using hu) (by simpa using hu2) fun h' z' p' r1' r2' pT _ kp => ⟨_, rfl, wpAny_letOwnedTupleGo_zip (s := { s with heap := h' }) z' fun g zg but => ?_⟩
    have pT2 : IsPair g s.heap.objs.size u u2 := (but.2 _ (Nat.ne_of_gt zl)).trans pT
    have fresh : ObjOk X.prog X.w (upd H s.heap.objs.size (.tup [x, y])) g s.heap.objs.size (.tup [x, y]) := ⟨by show 2 ≤ sizeLine; decide, [u, u2], .cons ru (.cons ru2 .nil), ⟨_, pT2, rfl, _, rfl⟩⟩
    have all : ∀ c o, c ∉ [z, ti, tp, i1, i2] → s.heap.get? c = some o → g.get? c = some o := fun c o nc q => (but.2 c fun q' => nc (by simp [q'])).trans (kp c o (fun q' => nc (by simp [q'])) (fun q' => nc (by simp [q'])) (fun q' => nc (by simp [q'])) (fun q' => nc (by simp [q'])) q)
    have J : Inv X pins σ (upd H s.heap.objs.size (.tup [x, y])) { s with heap := g } := I.turnedNew (t' := s.toks) (ch := [z, ti, tp, i1, i2]) all hf (Nat.le_refl _) fresh
    refine ⟨.ref s.heap.objs.size, _, J, rfl, ⟨_, x, y, rfl, I.hok.fresh (Nat.le_refl _), rfl, fun l hl => by rw [seq_same I hl qa]; exact hx, fun l hl => by rw [seq_same I hl qb]; exact hy⟩, ⟨zg, ?_, ⟨u, u2, ?_⟩, ?_, ?_⟩, fun c hc => ?_⟩
    · exact (but.2 _ D.TIz).trans (kp _ _ D.TIz D.TITO D.TIi1 D.TIi2 e2)
    · exact (but.2 _ D.TOz).trans p'
    · exact r1'.on fun o q => (but.2 _ D.i1z).trans q
    · exact r2'.on fun o q => (but.2 _ D.i2z).trans q
    · have lt : c < s.heap.objs.size := by
        rcases five hc with q | q | q | q | q <;> rw [q]
        · exact zl
        · exact Heap.lt_size e2
        · exact Heap.lt_size e3
        · exact r1.lt
        · exact r2.lt
      exact (upd_ne (Nat.ne_of_lt lt)).trans (hf c hc).1
  done := by
    rintro X hP hw hK hc i pins s σ H E I hf ⟨e1, e2, ⟨x0, y0, e3⟩, r1, r2⟩ ⟨us, vs, qa, qb, over⟩
    subst hP hw hK
    obtain ⟨ia, va, sa, la⟩ := seq_at I qa
    obtain ⟨ib, vb, sb, lb⟩ := seq_at I qb
    have n1 := va.length
    have n2 := vb.length
    have ov : ia.toArray[i]? = none ∨ ib.toArray[i]? = none := over.imp (fun q => by simp; omega) fun q => by simp; omega
    exact next_none (I.ok.hd hc) D ⟨e1, e2, e3⟩ r1 r2 sa sb ov fun h' kp => ⟨rfl, I.turnedL (t' := s.toks) (ch := [z, ti, tp, i1, i2]) (fun c o nc q =>
      kp c o (fun q' => nc (by simp [q'])) (fun q' => nc (by simp [q'])) (fun q' => nc (by simp [q'])) (fun q' => nc (by simp [q'])) q) hf⟩
  self := fun A i s Q E st g => wpAny_pyIter_zip st.1 g
/-- zip(e, f) is walked: k, kk tell whether the two are lists -/
def iZipM (K : PySem.W.Frag) (ta : TA) : TI := fun σ H R => ta σ H fun ws G => ∃ (k kk : Bool) (a b : Addr) (us vs : List V), ws = [.ref a, .ref b] ∧ k ≠ kk ∧ SqX k K G a us ∧ SqX kk K G b vs ∧ R (Itm K k kk a b) G
theorem pi_zipM {X : Cx} {e f : Expr} {ta : TA} {p pos tpos : Pos} {elts : List Expr} {n : Nat} (hg : Gl X "zip") (hm : X.mg "zip" = none) (ha : PA X [e, f] ta) (hs : starEach [e, f] X.env = (false, eval e X.env) :: starEach [f] X.env) (hpl : (backTo pos (starEach [f] X.env)).any (·.1) = false) :
    PI X (.Tuple elts n tpos) (.Call (.Name "zip" p) [e, f] [] pos) (iZipM X.K ta) := by
  refine ⟨fun pins s σ H R I h => ?_⟩
  refine Call_ (ld_blt I hg hm PyProof.Rows.boot_zip (PyProof.Rows.callWith_type1 (thn (ha.run pos pins s σ H _ I h) fun us1 s1 ⟨ws, G, J, r, k, kk, a, b, us, vs, ew, ne, qa, qb, q⟩ => ?_) hs hpl))
  subst ew
  cases r with
  | cons ra rr =>
  cases rr with
  | cons rb rr =>
  cases rr
  cases ra
  cases rb
  obtain ⟨ia, va, sa, la⟩ := seq_at J qa
  obtain ⟨ib, vb, sb, lb⟩ := seq_at J qb
  obtain ⟨m1, m2, m3, m4, m5, m6, m7⟩ := made k kk s1.heap a b
  have J2 : Inv X pins σ G { s1 with heap := h5 k kk s1.heap a b } := J.kept (t' := s1.toks) m7
  have fr : ∀ c, c ∈ [s1.heap.objs.size + 4, s1.heap.objs.size + 2, s1.heap.objs.size + 3, s1.heap.objs.size, s1.heap.objs.size + 1] → FpOk X pins G c := fun c hc => by
    have le : s1.heap.objs.size ≤ c := by
      rcases five hc with q | q | q | q | q <;> rw [q] <;> first | exact Nat.le_add_right _ _ | exact Nat.le_refl _
    exact J.fpOk le (J.hok.fresh le)
  have fin : wpAny (model X.prog X.w) X.A (pyIter (.ref (h4 k kk s1.heap a b).objs.size)) (PIE X pins σ (.Tuple elts n tpos) R) X.xe { s1 with heap := h5 k kk s1.heap a b } := by
    rw [m1]
    exact wpAny_pyIter_zip m2 ⟨_, _, _, _, G, rfl, J2, turn_mixed (PySem.W.ktu_apart s1.heap.objs.size a b la lb), ⟨m2, m3, ⟨_, _, m4⟩, m5, m6⟩, fr, q⟩
  cases k with
  | true =>
    cases kk with
    | true => exact absurd rfl ne
    | false => exact call_lt sa sb fin
  | false =>
    cases kk with
    | true => exact call_tl sa sb fin
    | false => exact absurd rfl ne
end Tz
/-! max(x) of a tuple of ints. -/
namespace Tc
open PySem PySem.Spec PyProof.Rows L2
theorem reads_ints {h : Heap} : ∀ {us : List Value} {ns : List Int}, IntsAre us ns → ∃ as, ReadsAll h us (ns.map PyData.int) as
  | _, _, .nil => ⟨_, .nil⟩
  | _, _, .cons n t r => by
    obtain ⟨as, z⟩ := reads_ints (h := h) r
    exact ⟨_, .cons (Reads.int n t) z⟩
theorem alike_ints (ns : List Int) : PySem.W.AlikeAll (ns.map PyData.int) := by
  refine ⟨fun x hx y hy => ?_, fun x hx => ?_⟩
  · obtain ⟨i, _, rfl⟩ := List.mem_map.mp hx
    obtain ⟨j, _, rfl⟩ := List.mem_map.mp hy
    rfl
  · obtain ⟨i, _, rfl⟩ := List.mem_map.mp hx
    exact fun e => nomatch e
theorem depth_ints : ∀ l : List Int, PyData.depthAll (l.map PyData.int) = 0
  | [] => rfl
  | i :: l => by
    show max 0 (PyData.depthAll (l.map PyData.int)) = 0
    rw [depth_ints l] <;> rfl
theorem foldl_max : ∀ (l : List Int) (n : Int), (l.foldl max n) ∈ n :: l ∧ ∀ y ∈ n :: l, y ≤ l.foldl max n
  | [], n => ⟨.head _, fun y hy => by
    cases hy with
    | head => exact Int.le_refl _
    | tail _ h => cases h⟩
  | m :: l, n => by
    obtain ⟨h1, h2⟩ := foldl_max l (max n m)
    refine ⟨?_, fun y hy => ?_⟩
    · show l.foldl max (max n m) ∈ n :: m :: l
      rcases List.mem_cons.mp h1 with e | e
      · rw [e]
        rcases Int.le_total n m with z | z
        · rw [Int.max_eq_right z]
          exact .tail _ (.head _)
        · rw [Int.max_eq_left z]
          exact .head _
      · exact .tail _ (.tail _ e)
    · show y ≤ l.foldl max (max n m)
      have h0 := h2 (max n m) (.head _)
      rcases List.mem_cons.mp hy with e | e
      · rw [e]
        exact Int.le_trans (Int.le_max_left n m) h0
      · rcases List.mem_cons.mp e with e | e
        · rw [e]
          exact Int.le_trans (Int.le_max_right n m) h0
        · exact h2 y (.tail _ e)
section
variable {X : Cx}
/-- max(x) of a tuple of ints -/
def rMaxT (K : PySem.W.Frag) : List V → Hp → VK → Prop := fun vs H Q => ∃ (a : Addr) (ns : List Int), vs = [V.ref a] ∧ SqT K H a (ns.map V.int) ∧ 0 < ns.length ∧ ∀ m, m ∈ ns → (∀ y, y ∈ ns → y ≤ m) → Q (.int m) H
theorem cr_maxT (hc : X.calm = true) (hu : X.A.units + 64 < cLine) : CallR X (.builtin "max") (rMaxT X.K) := by
  intro pins s σ H vs us Q I r h
  obtain ⟨a, ns, rfl, hs, hne, q⟩ := h
  obtain ⟨its, rv, hT, _⟩ := I.tuple hs
  rw [Vals.ref1 r]
  have hi := rv.ints
  cases ns with
  | nil => exact absurd hne (by decide)
  | cons n r =>
  obtain ⟨as, ra⟩ := reads_ints (h := s.heap) hi
  refine PySem.W.max_tuple_data (I.ok.hd hc) hT (by simpa using ra) (alike_ints (n :: r)) ?_ fun i v h' tk bs hv hr hk => ?_
  · have z := depth_ints (n :: r)
    rw [show PyData.int n :: r.map PyData.int = (n :: r).map PyData.int from rfl, z]
    omega
  rw [PySem.W.maxD_ints] at hr
  obtain ⟨t, e⟩ : ∃ t, v = Value.int (r.foldl max n) t := by
    cases hr with
    | int i t => exact ⟨t, rfl⟩
  obtain ⟨m1, m2⟩ := foldl_max r n
  exact ⟨.int (r.foldl max n), H, I.kept hk, ⟨t, e⟩, q _ m1 m2⟩
end
end Tc
/-! sum of a tuple of ints. -/
namespace Tz
open PySem PySem.Spec PyProof.Rows L2
section
variable {prog : Program} {w : World} {A : Around} {E : Value → Shared → Prop} {s : Shared} {l : Addr}
theorem sum_tup {ps : Array (Int × Tok)} {Q : Value → Shared → Prop} (hh : A.handled = none) (q : s.heap.IsTuple l (intItems ps))
    (g : ∀ h' tk t, (∀ b o, s.heap.get? b = some o → h'.get? b = some o) → Q (.int (preSum (numAt ps) ps.size) t) { s with heap := h', toks := tk }) : wpAny (model prog w) A (call (.builtin "sum") [.ref l]) Q E s := by
  have lt : l < s.heap.objs.size := by
    obtain ⟨o, e, _⟩ := id q
    exact Heap.lt_size e
  refine call_sum_walkG (wpAny_pyIter_tuple q ?_)
  have up : ∀ b o, s.heap.get? b = some o → (s.heap.push { cls := .type "tuple_iterator", data := .fields #[.ref l, .int 0 0] }).get? b = some o := fun b o e => Heap.get?_push_of_some _ e
  have st : (s.heap.push { cls := .type "tuple_iterator", data := .fields #[.ref l, .int 0 0] }).IsTupleIter s.heap.objs.size l 0 ∧ (s.heap.push { cls := .type "tuple_iterator", data := .fields #[.ref l, .int 0 0] }).IsTuple l (intItems ps) := ⟨⟨_, Heap.get?_push_size _ rfl, rfl, rfl⟩, q.push _⟩
  have within : ∀ b ∈ [s.heap.objs.size, l], b < (s.heap.push { cls := .type "tuple_iterator", data := .fields #[.ref l, .int 0 0] }).objs.size := fun b hb => by
    rw [Heap.size_push]
    rcases List.mem_cons.mp hb with e | hb
    · rw [e]
      exact Nat.lt_succ_self _
    · rw [List.mem_singleton.mp hb]
      exact Nat.lt_succ_of_lt lt
  refine ⟨_, _, _, _, _, _, numAt ps, rfl, Walks.tuple (A := A.in1) hh _ l (Nat.ne_of_lt lt) (intItems ps), st, within, (fun _ _ => intItems_at), fun h' tk t kp => ?_⟩
  have z := g h' tk t fun b o e => kp b o (fun hm => absurd (Heap.lt_size e) (by rw [List.mem_singleton.mp hm]; exact Nat.lt_irrefl _)) (up b o e)
  simpa [intItems] using z
end
def rSumT (K : PySem.W.Frag) : List V → Hp → VK → Prop := fun vs H Q => ∃ (a : Addr) (ns : List Int), vs = [V.ref a] ∧ SqT K H a (ns.map V.int) ∧ Q (.int ns.sum) H
theorem cr_sumT {X : Cx} (hc : X.calm = true) : CallR X (.builtin "sum") (rSumT X.K) := by
  intro pins s σ H vs us Q I r h
  obtain ⟨a, ns, rfl, hs, q⟩ := h
  obtain ⟨its, rv, p, _⟩ := I.tuple hs
  rw [Vals.ref1 r]
  have hi := rv.ints
  obtain ⟨ps, e⟩ := hi.allInts.items
  have hn : numsOf (intItems ps).toList = ns := by rw [← e]; exact hi.numsOf
  rw [nums_intItems] at hn
  have p : s.heap.IsTuple a its.toArray := p
  rw [e] at p
  refine sum_tup (I.ok.hd hc) p fun h' tk t kp => ?_
  rw [preSum_eq, List.take_of_length_le (by simp), hn]
  exact ⟨.int ns.sum, H, I.kept (t' := tk) kp, ⟨t, rfl⟩, q⟩
end Tz
/-! Built-ins, slices, texts. -/
namespace Px
open PySem PySem.Spec PyProof.Rows L2 Tc
section
variable {B : Bas} {X : Cx} {Γ : List Sl} {pos : Pos} {k : Nat}
/-! ### one argument, a plain answer -/
def Fn1 (r : List V → Hp → VK → Prop) (d : PyData) (k : PyData → Prop) : Prop := ∀ (H : Hp) (v : V) (Q : VK), Dv H v d → (∀ d' v', k d' → (∀ H', Dv H' v' d') → Q v' H) → r [v] H Q
theorem ge_b1 {x : Str} {p : Pos} {a : Expr} {id : String} {r : List V → Hp → VK → Prop} {φ : PyData → List Sl → Prop} (hc : CallR X (.builtin id) r) (R : PyData → (PyData → Prop) → Prop) (sem : ∀ d k, R d k → Fn1 r d k) (hg : Gl X x) (hm : X.mg x = none) (hv : bootBuiltins x = some (.builtin id))
    (h : GB B X a Γ fun d Γ1 => R d fun d' => φ d' Γ1) (hn : x ≠ "__name__" := by decide) (hdb : (x == ("__debug__" : Str)) = false := by decide) (he : starEach [a] X.env = (false, eval a X.env) :: starEach [] X.env := by rfl) : GE B X (.Call (.Name x p) [a] [] pos) Γ φ := fun Hs σ H Q S g =>
  pe_of (pe_callB hc hg hm hv (pa_cons pe_W pa_nil he) hn hdb (he := he)) (show teW X a σ H _ from h Hs σ H _ S fun d Γ1 v Hs1 H1 p s S1 q => sem d _ p H1 v Q q fun d' v' kd hd => g d' Γ1 v' Hs1 H1 kd s S1 (hd Hs1))
theorem ge_t1 {x : Str} {p : Pos} {a : Expr} {id : String} {r : List V → Hp → VK → Prop} {φ : PyData → List Sl → Prop} (hc : CallR X (.type id) r) (R : PyData → (PyData → Prop) → Prop) (sem : ∀ d k, R d k → Fn1 r d k) (hg : Gl X x) (hm : X.mg x = none) (hv : bootBuiltins x = some (.type id))
    (h : GB B X a Γ fun d Γ1 => R d fun d' => φ d' Γ1) (hn : x ≠ "__name__" := by decide) (hdb : (x == ("__debug__" : Str)) = false := by decide) (he : starEach [a] X.env = (false, eval a X.env) :: starEach [] X.env := by rfl) : GE B X (.Call (.Name x p) [a] [] pos) Γ φ := fun Hs σ H Q S g =>
  pe_of (pe_callTy hc hg hm hv (pa_cons pe_W pa_nil he) hn hdb (he := he)) (show teW X a σ H _ from h Hs σ H _ S fun d Γ1 v Hs1 H1 p s S1 q => sem d _ p H1 v Q q fun d' v' kd hd => g d' Γ1 v' Hs1 H1 kd s S1 (hd Hs1))
def IntF (d : PyData) (k : PyData → Prop) : Prop := match d with
  | .int i => k (.int i)
  | .bool b => k (.int (if b then 1 else 0))
  | .str z => ∃ n, PySem.intText? z = some n ∧ z.length ≤ 640 ∧ k (.int n)
  | _ => False
def SumD (d : PyData) (k : PyData → Prop) : Prop := ∃ ns : List Int, (d = .list (ns.map .int) ∨ d = .tuple (ns.map .int)) ∧ k (.int ns.sum)
def MaxD (d : PyData) (k : PyData → Prop) : Prop := ∃ ns : List Int, (d = .list (ns.map .int) ∨ d = .tuple (ns.map .int)) ∧ 0 < ns.length ∧ ∀ m, m ∈ ns → (∀ y, y ∈ ns → y ≤ m) → k (.int m)
def AllD (d : PyData) (k : PyData → Prop) : Prop := ∃ bs : List Bool, d = .list (bs.map .bool) ∧ k (.bool (bs.all id))
def RepD (d : PyData) (k : PyData → Prop) : Prop := Good d ∧ k (.str d.shown)
def rInt (xs : List V) (H : Hp) (Q : VK) : Prop := ((∃ i, xs = [.int i] ∧ Q (.int i) H) ∨ ∃ k, xs = [.bl k] ∧ Q (.int (if k then 1 else 0)) H) ∨ ∃ a n, xs = [.str a] ∧ PySem.intText? a = some n ∧ a.length ≤ 640 ∧ Q (.int n) H
theorem call_intA : CallR X (.type "int") rInt := CallR.or call_int1 call_int_str
theorem sem_int1 (d : PyData) (k : PyData → Prop) (h : IntF d k) : Fn1 rInt d k := fun H v Q q g => by
  cases q with
  | int i => exact .inl (.inl ⟨i, rfl, g _ _ h fun _ => .int _⟩)
  | bl b => exact .inl (.inr ⟨b, rfl, g _ _ h fun _ => .int _⟩)
  | str z =>
    obtain ⟨n, e, l, h⟩ := h
    exact .inr ⟨z, n, rfl, e, l, g _ _ h fun _ => .int _⟩
  | _ => exact h.elim
theorem sem_sum {K : PySem.W.Frag} (d : PyData) (k : PyData → Prop) (h : SumD d k) : Fn1 (fun xs H Q => rSum K xs H Q ∨ Tz.rSumT K xs H Q) d k := fun H v Q q g => by
  obtain ⟨ns, rfl | rfl, h⟩ := h
  · cases q with
    | lst r a =>
      rw [dvs_ints a] at r
      exact .inl ⟨_, ns, rfl, rdL r, g _ _ h fun _ => .int _⟩
  · cases q with
    | tup r a =>
      rw [dvs_ints a] at r
      exact .inr ⟨_, ns, rfl, rdT r, g _ _ h fun _ => .int _⟩
theorem sem_max {K : PySem.W.Frag} (d : PyData) (k : PyData → Prop) (h : MaxD d k) : Fn1 (fun xs H Q => rMax K xs H Q ∨ rMaxT K xs H Q) d k := fun H v Q q g => by
  obtain ⟨ns, rfl | rfl, l, h⟩ := h
  · cases q with
    | lst r a =>
      rw [dvs_ints a] at r
      exact .inl ⟨_, ns, rfl, rdL r, l, fun m hm hy => g _ _ (h m hm hy) fun _ => .int _⟩
  · cases q with
    | tup r a =>
      rw [dvs_ints a] at r
      exact .inr ⟨_, ns, rfl, rdT r, l, fun m hm hy => g _ _ (h m hm hy) fun _ => .int _⟩
theorem sem_repr (d : PyData) (k : PyData → Prop) (h : RepD d k) : Fn1 rRepr d k := fun H v Q q g => ⟨v, d, rfl, q, h.1.1, h.1.2.1, h.1.2.2, g _ _ h.2 fun _ => .str _⟩
section
variable {x : Str} {p : Pos} {a : Expr} {φ : PyData → List Sl → Prop}
theorem ge_int1 (hx : x = "int") (hg : Gl X x) (hm : X.mg x = none) (h : GB B X a Γ fun d Γ1 => IntF d fun d' => φ d' Γ1) (he : starEach [a] X.env = (false, eval a X.env) :: starEach [] X.env := by rfl) : GE B X (.Call (.Name x p) [a] [] pos) Γ φ := by
  subst hx; exact ge_t1 call_intA IntF sem_int1 hg hm (by decide +kernel) h (he := he)
theorem ge_sum (calm : X.calm = true) (hx : x = "sum") (hg : Gl X x) (hm : X.mg x = none) (h : GB B X a Γ fun d Γ1 => SumD d fun d' => φ d' Γ1) (he : starEach [a] X.env = (false, eval a X.env) :: starEach [] X.env := by rfl) : GE B X (.Call (.Name x p) [a] [] pos) Γ φ := by
  subst hx; exact ge_b1 (CallR.or (cr_sum calm) (Tz.cr_sumT calm)) SumD sem_sum hg hm (by decide +kernel) h (he := he)
theorem ge_max1 (calm : X.calm = true) (c : Cxt X k) (hx : x = "max") (hg : Gl X x) (hm : X.mg x = none) (h : GB B X a Γ fun d Γ1 => MaxD d fun d' => φ d' Γ1) (he : starEach [a] X.env = (false, eval a X.env) :: starEach [] X.env := by rfl) : GE B X (.Call (.Name x p) [a] [] pos) Γ φ := by
  subst hx; exact ge_b1 (CallR.or (cr_max calm) (cr_maxT calm c.room.units)) MaxD sem_max hg hm (by decide +kernel) h (he := he)
theorem ge_repr (c : Cxt X k) (hx : x = "repr") (hg : Gl X x) (hm : X.mg x = none) (h : GB B X a Γ fun d Γ1 => RepD d fun d' => φ d' Γ1) (he : starEach [a] X.env = (false, eval a X.env) :: starEach [] X.env := by rfl) : GE B X (.Call (.Name x p) [a] [] pos) Γ φ := by
  subst hx; exact ge_b1 (call_repr c.room c.gd c.sm) RepD sem_repr hg hm (by decide +kernel) h (he := he)
/-! ### isinstance of a built-in kind -/
def isD (T : String) (d : PyData) : Bool := tyIs (tyD d) T
theorem ge_isi {y : Str} {py : Pos} {T : String} (hx : x = "isinstance") (hg : Gl X x) (hm : X.mg x = none) (gy : Gl X y) (my : X.mg y = none) (by_ : bootBuiltins y = some (.type T)) (hT : T ∈ ["int", "bool", "tuple", "str", "list"])
    (h : GB B X a Γ fun d Γ1 => notI d = true ∧ φ (.bool (isD T d)) Γ1) (hn : y ≠ "__name__" := by decide) (hdb : (y == ("__debug__" : Str)) = false := by decide)
    (he : starEach [a, .Name y py] X.env = (false, eval a X.env) :: starEach [.Name y py] X.env := by rfl) (he2 : starEach [.Name y py] X.env = (false, eval (.Name y py) X.env) :: starEach [] X.env := by rfl) (hpl : (backTo pos (starEach [.Name y py] X.env)).any (·.1) = false := by rfl) : GE B X (.Call (.Name x p) [a, .Name y py] [] pos) Γ φ := by
  subst hx
  exact fun Hs σ H Q S g => pe_of (pe_callB call_isi hg hm (by decide +kernel) (pa_cons pe_W (pa_cons (pe_bltn (v := .ty T) gy my by_ rfl hn hdb) pa_nil he2) he) (he := he) (hpl := hpl)) (show teW X a σ H _ from h Hs σ H _ S fun d Γ1 v Hs1 H1 ⟨ni, p⟩ s S1 q => isi_D q ni hT (g _ Γ1 _ Hs1 H1 p s S1 (.bl _)))
/-! ### two ints -/
theorem ge_min2 {b : Expr} (calm : X.calm = true) (hx : x = "min") (hg : Gl X x) (hm : X.mg x = none) (h : GA B X [a, b] Γ fun ds Γ1 => ∃ i j : Int, ds = [.int i, .int j] ∧ φ (.int (if j < i then j else i)) Γ1)
    (he : starEach [a, b] X.env = (false, eval a X.env) :: starEach [b] X.env := by rfl) (hpl : (backTo pos (starEach [b] X.env)).any (·.1) = false := by rfl) : GE B X (.Call (.Name x p) [a, b] [] pos) Γ φ := by
  subst hx
  exact fun Hs σ H Q S g => pe_of (pe_callB (call_min2 calm) hg hm (by decide +kernel) pa_W (he := he) (hpl := hpl)) (h Hs σ H _ S fun ds Γ1 vs Hs1 H1 ⟨i, j, e, p⟩ s S1 dv => by
    subst e
    exact ⟨i, j, dvs_ints (ns := [i, j]) dv, g _ Γ1 _ Hs1 H1 p s S1 (.int _)⟩)
theorem ge_max2 {b : Expr} (calm : X.calm = true) (hx : x = "max") (hg : Gl X x) (hm : X.mg x = none) (h : GA B X [a, b] Γ fun ds Γ1 => ∃ i j : Int, ds = [.int i, .int j] ∧ φ (.int (if j > i then j else i)) Γ1)
    (he : starEach [a, b] X.env = (false, eval a X.env) :: starEach [b] X.env := by rfl) (hpl : (backTo pos (starEach [b] X.env)).any (·.1) = false := by rfl) : GE B X (.Call (.Name x p) [a, b] [] pos) Γ φ := by
  subst hx
  exact fun Hs σ H Q S g => pe_of (pe_callB (call_max2 calm) hg hm (by decide +kernel) pa_W (he := he) (hpl := hpl)) (h Hs σ H _ S fun ds Γ1 vs Hs1 H1 ⟨i, j, e, p⟩ s S1 dv => by
    subst e
    exact ⟨i, j, dvs_ints (ns := [i, j]) dv, g _ Γ1 _ Hs1 H1 p s S1 (.int _)⟩)
theorem ge_divmod {b : Expr} (hx : x = "divmod") (hg : Gl X x) (hm : X.mg x = none) (h : GA B X [a, b] Γ fun ds Γ1 => ∃ i j : Int, ds = [.int i, .int j] ∧ CDivP i j ∧ φ (.tuple [.int (i / j), .int (i % j)]) Γ1)
    (he : starEach [a, b] X.env = (false, eval a X.env) :: starEach [b] X.env := by rfl) (hpl : (backTo pos (starEach [b] X.env)).any (·.1) = false := by rfl) : GE B X (.Call (.Name x p) [a, b] [] pos) Γ φ := by
  subst hx
  exact fun Hs σ H Q S g => pe_of (pe_callB call_divmodW hg hm (by decide +kernel) pa_W (he := he) (hpl := hpl)) (h Hs σ H _ S fun ds Γ1 vs Hs1 H1 ⟨i, j, e, cd, p⟩ s S1 dv => by
    subst e
    exact ⟨i, j, dvs_ints (ns := [i, j]) dv, cd, tup_new S1 (.cons (.int _) (.cons (.int _) .nil)) fun v Hs2 H2 s2 S2 q => g _ Γ1 v Hs2 H2 p (s.trans s2) S2 q⟩)
/-! ### tuple(x), list(x), sorted(x) -/
theorem ge_tupL (hx : x = "tuple") (hg : Gl X x) (hm : X.mg x = none) (h : GQ B X true a Γ fun ds Γ1 => φ (.tuple ds) Γ1) (he : starEach [a] X.env = (false, eval a X.env) :: starEach [] X.env := by rfl) : GE B X (.Call (.Name x p) [a] [] pos) Γ φ := by
  subst hx
  exact fun Hs σ H Q S g => pe_of (pe_callTy call_tuple_of hg hm (by decide +kernel) (pa_cons pe_W pa_nil he) (he := he)) (show teW X a σ H _ from h Hs σ H _ S fun ds Γ1 b vs Hs1 H1 p s S1 hq dv =>
    ⟨b, vs, rfl, .inl ⟨hq, tup_new S1 dv fun v Hs2 H2 s2 S2 q => g _ Γ1 v Hs2 H2 p (s.trans s2) S2 q⟩⟩)
theorem dvs_of_ints {H : Hp} : ∀ ns : List Int, DvAll H (ns.map V.int) (ns.map PyData.int)
  | [] => .nil
  | n :: r => .cons (.int n) (dvs_of_ints r)
theorem gf_sortI {χ : List PyData → List Sl → Prop} (hx : x = "sorted") (hg : Gl X x) (hm : X.mg x = none) (h : GB B X a Γ fun d Γ1 => ∃ ns : List Int, d = .list (ns.map .int) ∧ ∀ ms : List Int, ms.Perm ns → ms.Pairwise (· ≤ ·) → χ (ms.map .int) Γ1) (he : starEach [a] X.env = (false, eval a X.env) :: starEach [] X.env := by rfl) : GF B X (.Call (.Name x p) [a] [] pos) Γ χ := by
  subst hx
  exact fun Hs σ H Q S g => pe_of (pe_callB cr_sortedI hg hm (by decide +kernel) (pa_cons pe_W pa_nil he) (he := he)) (show teW X a σ H _ from h Hs σ H _ S fun d Γ1 v Hs1 H1 ⟨ns, e, p⟩ s S1 q => by
    subst e
    cases q with
    | lst r a =>
      rw [dvs_ints a] at r
      refine ⟨_, ns, rfl, rdL r, fun ms l hp hs hl => ?_⟩
      obtain ⟨f, n, al⟩ := alone_new S1 hl
      exact g _ Γ1 l _ Hs1 _ (p ms hp hs) s (S1.aside hl) f n al upd_same (dvs_of_ints ms))
end
/-! ### parts -/
def GO (B : Bas) (X : Cx) (e : Option Expr) (Γ : List Sl) (φ : Option Int → List Sl → Prop) : Prop := ∃ t, PO X e t ∧ ∀ (Hs : Hp) (σ : L2.St) (H : Hp) (Q : Option Int → Hp → Prop), Sx B Hs σ H Γ →
  (∀ o Γ' Hs' H', φ o Γ' → Same Hs Hs' → Sx B Hs' σ H' Γ' → Q o H') → t σ H Q
theorem go_none {φ : Option Int → List Sl → Prop} (h : φ none Γ) : GO B X none Γ φ := ⟨_, po_none, fun Hs σ H Q S g => g none Γ Hs H h (Same.refl _) S⟩
theorem go_some {e : Expr} {φ : Option Int → List Sl → Prop} (h : GE B X e Γ fun d Γ1 => ∃ i : Int, d = .int i ∧ φ (some i) Γ1) : GO B X (some e) Γ φ := ⟨_, po_some pe_W, fun Hs σ H Q S g => h Hs σ H _ S fun d Γ1 v Hs1 H1 ⟨i, e, p⟩ s S1 q => by
  subst e
  cases q
  exact ⟨i, rfl, g _ Γ1 Hs1 H1 p s S1⟩⟩
def cutD (ds : List PyData) (lo hi : Option Int) : List PyData := (ds.drop (HT.sIx ds.length 0 lo)).take (HT.sIx ds.length ds.length hi - HT.sIx ds.length 0 lo)
theorem dvs_cut {H : Hp} {vs : List V} {ds : List PyData} (h : DvAll H vs ds) (lo hi : Option Int) : DvAll H (cutV vs lo hi) (cutD ds lo hi) := by
  unfold cutV cutD
  rw [h.len]
  exact dvs_take _ (dvs_drop _ h)
def SlD (d : PyData) (lo hi : Option Int) (k : PyData → Prop) : Prop := match d with
  | .list ds => k (.list (cutD ds lo hi))
  | .tuple ds => k (.tuple (cutD ds lo hi))
  | .str z => z.length ≤ sizeLine ∧ k (.str (cutS z lo hi))
  | _ => False
theorem cut_whole {ds : List PyData} {lo hi : Option Int} (h : HT.sIx ds.length 0 lo = 0 ∧ HT.sIx ds.length ds.length hi = ds.length) : cutD ds lo hi = ds := by
  unfold cutD
  rw [h.1, h.2, List.drop_zero, Nat.sub_zero, List.take_length]
@[irreducible] def toW (X : Cx) (e : Option Expr) : TO := fun σ H Q => ∀ (pins : List (Addr × Obj)) (s : Shared), Inv X pins σ H s → wpAny (model X.prog X.w) X.A (evalPart e X.env) (fun u s' => ∃ o H', Inv X pins σ H' s' ∧ IsPart u o ∧ Q o H') X.xe s
theorem toI {e : Option Expr} {σ : L2.St} {H : Hp} {Q : Option Int → Hp → Prop} (h : ∀ (pins : List (Addr × Obj)) (s : Shared), Inv X pins σ H s → wpAny (model X.prog X.w) X.A (evalPart e X.env) (fun u s' => ∃ o H', Inv X pins σ H' s' ∧ IsPart u o ∧ Q o H') X.xe s) : toW X e σ H Q := by unfold toW; exact h
theorem toE {e : Option Expr} {σ : L2.St} {H : Hp} {Q : Option Int → Hp → Prop} (h : toW X e σ H Q) : ∀ (pins : List (Addr × Obj)) (s : Shared), Inv X pins σ H s → wpAny (model X.prog X.w) X.A (evalPart e X.env) (fun u s' => ∃ o H', Inv X pins σ H' s' ∧ IsPart u o ∧ Q o H') X.xe s := by unfold toW at h; exact h
theorem po_W {e : Option Expr} : PO X e (toW X e) := ⟨fun pins s _ _ _ I h => toE h pins s I⟩
theorem po_of {e : Option Expr} {t : TO} (p : PO X e t) {σ : L2.St} {H : Hp} {Q : Option Int → Hp → Prop} (h : t σ H Q) : toW X e σ H Q := toI fun pins s I => p.run pins s σ H Q I h
theorem go_run {e : Option Expr} {φ : Option Int → List Sl → Prop} (h : GO B X e Γ φ) : ∀ (Hs : Hp) (σ : L2.St) (H : Hp) (Q : Option Int → Hp → Prop), Sx B Hs σ H Γ → (∀ o Γ' Hs' H', φ o Γ' → Same Hs Hs' → Sx B Hs' σ H' Γ' → Q o H') → toW X e σ H Q := fun Hs σ H Q S g => by
  obtain ⟨t, p, h⟩ := h
  exact po_of p (h Hs σ H Q S g)
def rSlAny (K : PySem.W.Frag) : V → Option Int → Option Int → Hp → VK → Prop := fun x lo hi H Q => rSlL K x lo hi H Q ∨ (rSlA K x lo hi H Q ∨ rSlS x lo hi H Q)
theorem ge_slice {a : Expr} {lo hi : Option Expr} {p2 : Pos} {φ : PyData → List Sl → Prop} (h : GE B X a Γ fun d Γ1 => GO B X lo Γ1 fun l Γ2 => GO B X hi Γ2 fun u Γ3 => SlD d l u fun d' => φ d' Γ3) : GE B X (.Subscript a (.Slice lo hi none p2) pos) Γ φ := fun Hs σ H Q S g =>
  pe_of (pe_slice (r := rSlAny X.K) (SlR.or sl_list (SlR.or sl_tupA sl_str)) pe_W po_W po_W) (h Hs σ H _ S fun d Γ1 v Hs1 H1 p s1 S1 q1 => go_run p Hs1 σ H1 _ S1 fun l Γ2 Hs2 H2 p2 s2 S2 => go_run p2 Hs2 σ H2 _ S2 fun u Γ3 Hs3 H3 p3 s3 S3 => by
    have q1 := (q1.mono s2).mono s3
    have s := s1.trans (s2.trans s3)
    cases q1 with
    | lst r a => exact .inl ⟨_, _, rfl, rdL (rd_up S3.sub r), lst_new S3 (dvs_cut a l u) fun v Hs4 H4 s4 S4 q => g _ Γ3 v Hs4 H4 p3 (s.trans s4) S4 q⟩
    | @tup b ys es r a =>
      refine .inr (.inl ⟨_, _, rfl, rdT (rd_up S3.sub r), fun e => ?_, fun _ => tup_new S3 (dvs_cut a l u) fun v Hs4 H4 s4 S4 q => g _ Γ3 v Hs4 H4 p3 (s.trans s4) S4 q⟩)
      rw [a.len] at e
      have p3 : φ (.tuple (cutD es l u)) Γ3 := p3
      rw [cut_whole e] at p3
      exact g _ Γ3 _ Hs3 H3 p3 s S3 (.tup r a)
    | str z => exact .inr (.inr ⟨z, rfl, p3.1, g _ Γ3 _ Hs3 H3 p3.2 s S3 (.str _)⟩)
    | _ => exact p3.elim)
/-! ### texts -/
section
variable {a b : Expr} {ap : Pos} {φ : PyData → List Sl → Prop}
/-- s.join(ys) -/
theorem ge_join (h : GE B X a Γ fun d Γ1 => ∃ z : Str, d = .str z ∧ GB B X b Γ1 fun d2 Γ2 => ∃ ys : List Str, (d2 = .list (ys.map .str) ∨ d2 = .tuple (ys.map .str)) ∧ (ys.map (·.length)).sum + ys.length * z.length ≤ 16777216 ∧ φ (.str (Txt.join z ys)) Γ2)
    (hs : starEach [b] X.env = [(false, eval b X.env)] := by rfl) (hbase : attributeBase a "join" X.env (eval a X.env) = eval a X.env := by rfl) (hline : (ap.endLine == pos.line) = true := by rfl) : GE B X (.Call (.Attribute a "join" ap) [b] [] pos) Γ φ := fun Hs σ H Q S g =>
  pe_of (pe_join pe_W pe_W hs hbase hline) (h Hs σ H _ S fun d Γ1 v Hs1 H1 ⟨z, e, p⟩ s1 S1 q1 => by
    subst e
    cases q1
    refine ⟨⟨z, rfl⟩, p Hs1 σ H1 _ S1 fun d2 Γ2 w Hs2 H2 ⟨ys, e2, hz, p2⟩ s2 S2 q2 => ?_⟩
    have fin := g _ Γ2 _ Hs2 H2 p2 (s1.trans s2) S2 (.str _)
    rcases e2 with rfl | rfl
    · cases q2 with
      | lst r a =>
        rw [dvs_strs a] at r
        exact ⟨z, _, ys, rfl, rfl, .inl (rdL r), hz, fin⟩
    · cases q2 with
      | tup r a =>
        rw [dvs_strs a] at r
        exact ⟨z, _, ys, rfl, rfl, .inr (rdT r), hz, fin⟩)
/-! ### f'..' -/
def FmtD (d : PyData) (k : Str → Prop) : Prop := match d with
  | .str z => z.length ≤ sizeLine ∧ k z
  | .int i => i.natAbs.log2 < 1920 ∧ k (toString i)
  | _ => False
/-- {e}: a text -/
theorem ge_fmt (h : GE B X a Γ fun d Γ1 => FmtD d fun z => φ (.str z) Γ1) : GE B X (.FormattedValue a (-1) none pos) Γ φ := fun Hs σ H Q S g =>
  pe_of (pe_fmt pe_W) (h Hs σ H _ S fun d Γ1 v Hs1 H1 p s1 S1 q1 => by
    cases q1 with
    | str z => exact .inl ⟨z, rfl, p.1, g _ Γ1 _ Hs1 H1 p.2 s1 S1 (.str _)⟩
    | int i => exact .inr ⟨i, rfl, p.1, g _ Γ1 _ Hs1 H1 p.2 s1 S1 (.str _)⟩
    | _ => exact p.elim)
theorem ge_joined1 (h : GE B X a Γ φ) : GE B X (.JoinedStr [a] pos) Γ φ := fun Hs σ H Q S g => pe_of (pe_joined1 pe_W) (h Hs σ H Q S g)
end
end
end Px
/-! The rules by the syntax alone: slots found by their names. -/
namespace Px
open PySem PySem.Spec PyProof.Rows L2 Tc
def idxS : List Str → Str → Option Nat
  | [], _ => none
  | y :: r, x => if y == x then some 0 else (idxS r x).map (· + 1)
theorem idxS_ok {x : Str} : ∀ {l : List Str} {i : Nat}, idxS l x = some i → l[i]? = some x
  | y :: r, i, h => by
    unfold idxS at h
    split at h
    · rename_i e
      cases h
      rw [eq_of_beq e] <;> rfl
    · cases q : idxS r x with
      | none => rw [q] at h; cases h
      | some j =>
        rw [q] at h
        cases h
        exact (idxS_ok q : r[j]? = some x)
def Sees (sc : Scope) (x : Str) : Bool := match sc.names.lookup x with
  | some .local | some .cell | some .free => true
  | _ => false
theorem sees_ok {sc : Scope} {x : Str} (h : Sees sc x = true) : Vis sc x := by
  unfold Sees at h
  split at h
  · exact .inl ‹_›
  · exact .inr (.inl ‹_›)
  · exact .inr (.inr ‹_›)
  · cases h
section
variable {B : Bas} {X : Cx} {Γ : List Sl} {E : DE} {pos : Pos} {k : Nat}
theorem name_e {i : Nat} {x : Str} {y : PyData} {φ : PyData → List Sl → Prop} (hN : idxS X.N x = some i) (hΓ : Γ[i]? = some (.d y)) (hv : Sees X.env.scope x = true) (h : φ y Γ) (hd : (x == ("__debug__" : Str)) = false := by decide) (hcd : (x == ("__classdict__" : Str)) = false := by decide) :
    GE B X (.Name x pos) Γ φ := ge_name i (idxS_ok hN) hΓ (sees_ok hv) h hd hcd
theorem name_give {i : Nat} {x : Str} {a : Addr} {ds : List PyData} {φ : PyData → List Sl → Prop} (hN : idxS X.N x = some i) (hΓ : Γ[i]? = some (.own a ds)) (hv : Sees X.env.scope x = true) (h : φ (.list ds) (Γ.set i (.d (.list ds)))) (hd : (x == ("__debug__" : Str)) = false := by decide) (hcd : (x == ("__classdict__" : Str)) = false := by decide) :
    GE B X (.Name x pos) Γ φ := ge_give i (idxS_ok hN) hΓ (sees_ok hv) h hd hcd
theorem name_q {i : Nat} {x : Str} {a : Addr} {ds : List PyData} {φ : List PyData → List Sl → Prop} (hN : idxS X.N x = some i) (hΓ : Γ[i]? = some (.own a ds)) (hv : Sees X.env.scope x = true) (h : φ ds Γ) (hd : (x == ("__debug__" : Str)) = false := by decide) (hcd : (x == ("__classdict__" : Str)) = false := by decide) :
    GQ B X true (.Name x pos) Γ φ := gq_own i (idxS_ok hN) hΓ (sees_ok hv) h hd hcd
theorem set_e (c : Bod X k) {i : Nat} {x : Str} {e : Expr} {pos' : Pos} (hi : idxS X.N x = some i) (hx : X.env.scope.names.lookup x = some .local) (h : GE B X e Γ fun d Γ1 => Nat.ble (i + 1) Γ1.length = true ∧ E.nx (Γ1.set i (.d d)))
    (hs : swapsWith e (some (.Name x pos')) pos.line X.env = pure false := by rfl) : G1 B X (.Assign [.Name x pos'] e pos) Γ E := g1_set c i (idxS_ok hi) (.inl hx) (fun Hs σ H Q S g => h Hs σ H Q S fun d Γ' v Hs' H' p => g d Γ' v Hs' H' ⟨Nat.le_of_ble_eq_true p.1, p.2⟩) hs (.inr hx)
theorem set_cell (c : Bod X k) {i : Nat} {x : Str} {e : Expr} {pos' : Pos} (hi : idxS X.N x = some i) (hx : X.env.scope.names.lookup x = some .cell) (h : GE B X e Γ fun d Γ1 => Nat.ble (i + 1) Γ1.length = true ∧ E.nx (Γ1.set i (.d d)))
    (hs : swapsWith e (some (.Name x pos')) pos.line X.env = pure false := by rfl) (hf : X.fn x = true := by rfl) : G1 B X (.Assign [.Name x pos'] e pos) Γ E := g1_set c i (idxS_ok hi) (.inr hx) (fun Hs σ H Q S g => h Hs σ H Q S fun d Γ' v Hs' H' p => g d Γ' v Hs' H' ⟨Nat.le_of_ble_eq_true p.1, p.2⟩) hs (.inl hf)
end
/-! ### what the data say -/
section
variable {k : PyData → Prop} {q : Bool → Prop} {n : Int → Prop} {i j : Int} {x y : Str} {xs ys : List PyData}
theorem add_ii (h : k (.int (i + j))) : AddD (.int i) (.int j) k := h
theorem add_ll (l : xs.length + ys.length ≤ sizeLine) (h : k (.list (xs ++ ys))) : AddD (.list xs) (.list ys) k := ⟨l, h⟩
theorem int0_i {f : Int → Int → Int} (h : k (.int (f i j))) : Int0 f (.int i) (.int j) k := h
theorem mul_ii (c : MulOk i j) (h : k (.int (i * j))) : MulD (.int i) (.int j) k := ⟨c, h⟩
theorem ord_i {p : Int → Int → Bool} (h : q (p i j)) : OrdD p (.int i) (.int j) q := h
theorem isN_i {d : PyData} (h : q (isN d)) : IsND d .none q := h
theorem notN_i {d : PyData} (h : q (!isN d)) : NotND d .none q := h
theorem eq_p {d1 d2 : PyData} (p : plain2 d1 d2 = true) (h : q (PyData.eqv d1 d2)) : EqD d1 d2 q := ⟨.inl p, h⟩
theorem ne_p {d1 d2 : PyData} (p : plain2 d1 d2 = true) (h : q (!PyData.eqv d1 d2)) : NeD d1 d2 q := ⟨.inl p, h⟩
theorem len_l (h : n xs.length) : LenD (.list xs) n := h
theorem len_t (h : n xs.length) : LenD (.tuple xs) n := h
theorem ix_l {d : PyData} (e : atD xs i = some d) (h : k d) : IxD (.list xs) (.int i) k := ⟨d, e, h⟩
theorem ix_t {d : PyData} (e : atD xs i = some d) (h : k d) : IxD (.tuple xs) (.int i) k := ⟨d, e, h⟩
theorem seq_l {K : List PyData → Prop} (h : K xs) : SeqD (.list xs) K := h
theorem seq_t {K : List PyData → Prop} (h : K xs) : SeqD (.tuple xs) K := h
theorem intf_i (h : k (.int i)) : IntF (.int i) k := h
theorem sl_l {lo hi : Option Int} (h : k (.list (cutD xs lo hi))) : SlD (.list xs) lo hi k := h
end
theorem len_ok {α : Type} {l : List α} (h : Nat.ble l.length 1000 = true) : l.length ≤ sizeLine := Nat.le_trans (Nat.le_of_ble_eq_true h) (by decide)
theorem isD_int (d : PyData) : isD "int" d = (match d with | .int _ => true | .bool _ => true | _ => false) := ty_int d
theorem isD_bool (d : PyData) : isD "bool" d = (match d with | .bool _ => true | _ => false) := ty_bool d
theorem isD_tuple (d : PyData) : isD "tuple" d = (match d with | .tuple _ => true | _ => false) := ty_tuple d
end Px
namespace Px
open PySem PySem.Spec PyProof.Rows L2 Tc
/-- the built-ins that are called are Python's own -/
structure Gls (mg : Str → Option Value) : Prop where
  len : mg "len" = none
  int : mg "int" = none
  bool : mg "bool" = none
  str : mg "str" = none
  tuple : mg "tuple" = none
  list : mg "list" = none
  isinstance : mg "isinstance" = none
  abs : mg "abs" = none
  divmod : mg "divmod" = none
  range : mg "range" = none
  repr : mg "repr" = none
  min : mg "min" = none
  max : mg "max" = none
  all : mg "all" = none
  any : mg "any" = none
  sum : mg "sum" = none
  sorted : mg "sorted" = none
  zip : mg "zip" = none
  enumerate : mg "enumerate" = none
  reversed : mg "reversed" = none
  set : mg "set" = none
/-- the same surroundings -/
structure SameX (X : Cx) (P : Program) (w : World) (K : PySem.W.Frag) (mg : Str → Option Value) (base : Heap) : Prop where
  p : X.prog = P
  w : X.w = w
  k : X.K = K
  m : X.mg = mg
  b : X.base = base
section
variable {B : Bas} {X : Cx} {Γ : List Sl} {E : DE} {pos : Pos} {k j n : Nat} {P : Program} {w : World} {K : PySem.W.Frag} {mg : Str → Option Value} {base : Heap}
theorem num_e {x : Str} {n : Int} {φ : PyData → List Sl → Prop} (hX : SameX X P w K mg base) (hm : ∃ t, mg x = some (.int n t)) (hg : Gl X x) (h : φ (.int n) Γ) (hd : (x == ("__debug__" : Str)) = false) : GE B X (.Name x pos) Γ φ := ge_num (by rw [hX.m]; exact hm) hg h hd
theorem call_e {x : Str} {p : Pos} {e : Expr} {es : List Expr} {ps : List Str} {pre : List PyData → Prop} {f : List PyData → Out} {ψ : Addr → PyData → List Sl → Prop} {φ : PyData → List Sl → Prop} (hX : SameX X P w K mg base) (F : Call P w K mg base (L2.CX P w) j x ps (spF n pre f)) (c : Cxt X k) (hj : Nat.ble j k = true) (hg : Gl X x) (ex : Exc B X ψ)
    (h : GA B X (e :: es) Γ fun ds Γ1 => ds.length = n ∧ pre ds ∧ (f ds).to (fun d => φ d Γ1) (fun C d => ψ C d Γ1)) (hdb : (x == ("__debug__" : Str)) = false)
    (he : starEach (e :: es) X.env = (false, eval e X.env) :: starEach es X.env) (hpl : (backTo pos (starEach es X.env)).any (·.1) = false) : GE B X (.Call (.Name x p) (e :: es) [] pos) Γ φ := by
  obtain ⟨rfl, rfl, rfl, rfl, rfl⟩ := hX
  exact ge_call F c (Nat.le_of_ble_eq_true hj) hg ex h hdb he hpl
theorem pail_e {i : Nat} {x y : Str} {p py : Pos} {es : List Expr} {ps : List Str} {a : Addr} {ms0 : List PyData} {pre : List PyData → List PyData → Prop} {R : List PyData → List PyData → Out → List PyData → Prop} {ψ : Addr → PyData → List Sl → Prop} {φ : PyData → List Sl → Prop} (hX : SameX X P w K mg base) (F : Call P w K mg base (L2.CX P w) j x ps (spP n pre R)) (c : Cxt X k) (hj : Nat.ble j k = true) (hg : Gl X x) (ex : Exc B X ψ)
    (hN : idxS X.N y = some i) (hv : Sees X.env.scope y = true) (hΓ : Γ[i]? = some (.own a ms0))
    (h : GA B X es Γ fun ds Γ1 => ∃ ms, Γ1[i]? = some (.own a ms) ∧ ds.length = n ∧ pre ms ds ∧ ∀ o ms', R ms ds o ms' → o.to (fun d => φ d (Γ1.set i (.own a ms'))) (fun C d => ψ C d (Γ1.set i (.own a ms')))) (hdb : (x == ("__debug__" : Str)) = false)
    (hd : (y == ("__debug__" : Str)) = false) (hcd : (y == ("__classdict__" : Str)) = false)
    (he : starEach (.Name y py :: es) X.env = (false, eval (.Name y py) X.env) :: starEach es X.env) (hpl : (backTo pos (starEach es X.env)).any (·.1) = false) : GE B X (.Call (.Name x p) (.Name y py :: es) [] pos) Γ φ := by
  obtain ⟨rfl, rfl, rfl, rfl, rfl⟩ := hX
  exact ge_pail i F c (Nat.le_of_ble_eq_true hj) hg ex (idxS_ok hN) (sees_ok hv) hΓ h hdb hd hcd he hpl
end
end Px
namespace Px
open PySem PySem.Spec PyProof.Rows L2 Tc
section
variable {B : Bas} {X : Cx} {Γ : List Sl} {pos : Pos}
theorem isi_int {x y : Str} {p py : Pos} {a : Expr} {φ : PyData → List Sl → Prop} (hx : x = "isinstance") (hy : y = "int") (hg : Gl X x) (hm : X.mg x = none) (gy : Gl X y) (my : X.mg y = none) (he : starEach [a, .Name y py] X.env = (false, eval a X.env) :: starEach [.Name y py] X.env) (he2 : starEach [.Name y py] X.env = (false, eval (.Name y py) X.env) :: starEach [] X.env) (hpl : (backTo pos (starEach [.Name y py] X.env)).any (·.1) = false) (h : GB B X a Γ fun d Γ1 => notI d = true ∧ φ (.bool (isD "int" d)) Γ1) : GE B X (.Call (.Name x p) [a, .Name y py] [] pos) Γ φ := by
  subst hy
  exact ge_isi (T := "int") hx hg hm gy my (by decide +kernel) (by decide) h (by decide) (by decide) he he2 hpl
theorem isi_bool {x y : Str} {p py : Pos} {a : Expr} {φ : PyData → List Sl → Prop} (hx : x = "isinstance") (hy : y = "bool") (hg : Gl X x) (hm : X.mg x = none) (gy : Gl X y) (my : X.mg y = none) (he : starEach [a, .Name y py] X.env = (false, eval a X.env) :: starEach [.Name y py] X.env) (he2 : starEach [.Name y py] X.env = (false, eval (.Name y py) X.env) :: starEach [] X.env) (hpl : (backTo pos (starEach [.Name y py] X.env)).any (·.1) = false) (h : GB B X a Γ fun d Γ1 => notI d = true ∧ φ (.bool (isD "bool" d)) Γ1) : GE B X (.Call (.Name x p) [a, .Name y py] [] pos) Γ φ := by
  subst hy
  exact ge_isi (T := "bool") hx hg hm gy my (by decide +kernel) (by decide) h (by decide) (by decide) he he2 hpl
theorem isi_tuple {x y : Str} {p py : Pos} {a : Expr} {φ : PyData → List Sl → Prop} (hx : x = "isinstance") (hy : y = "tuple") (hg : Gl X x) (hm : X.mg x = none) (gy : Gl X y) (my : X.mg y = none) (he : starEach [a, .Name y py] X.env = (false, eval a X.env) :: starEach [.Name y py] X.env) (he2 : starEach [.Name y py] X.env = (false, eval (.Name y py) X.env) :: starEach [] X.env) (hpl : (backTo pos (starEach [.Name y py] X.env)).any (·.1) = false) (h : GB B X a Γ fun d Γ1 => notI d = true ∧ φ (.bool (isD "tuple" d)) Γ1) : GE B X (.Call (.Name x p) [a, .Name y py] [] pos) Γ φ := by
  subst hy
  exact ge_isi (T := "tuple") hx hg hm gy my (by decide +kernel) (by decide) h (by decide) (by decide) he he2 hpl
theorem gt_lele {a b c : Expr} {φ : Bool → List Sl → Prop} (hm : lastMarks [.LtE, .LtE] [b, c] = false) (h : GE B X a Γ fun d1 Γ1 => GE B X b Γ1 fun d2 Γ2 => LeD d1 d2 fun t => if t = true then GE B X c Γ2 fun d3 Γ3 => LeD d2 d3 fun u => φ u Γ3 else φ false Γ2) : GT B X (.Compare a [.LtE, .LtE] [b, c] pos) Γ φ := gt_chain op_le op_le LeD LeD sem_ord sem_ord h hm
theorem ge_lele {a b c : Expr} {φ : PyData → List Sl → Prop} (hm : lastMarks [.LtE, .LtE] [b, c] = false) (h : GE B X a Γ fun d1 Γ1 => GE B X b Γ1 fun d2 Γ2 => LeD d1 d2 fun t => if t = true then GE B X c Γ2 fun d3 Γ3 => LeD d2 d3 fun u => φ (.bool u) Γ3 else φ (.bool false) Γ2) : GE B X (.Compare a [.LtE, .LtE] [b, c] pos) Γ φ := ge_chain op_le op_le LeD LeD sem_ord sem_ord h hm
theorem gt_lelt {a b c : Expr} {φ : Bool → List Sl → Prop} (hm : lastMarks [.LtE, .Lt] [b, c] = false) (h : GE B X a Γ fun d1 Γ1 => GE B X b Γ1 fun d2 Γ2 => LeD d1 d2 fun t => if t = true then GE B X c Γ2 fun d3 Γ3 => LtD d2 d3 fun u => φ u Γ3 else φ false Γ2) : GT B X (.Compare a [.LtE, .Lt] [b, c] pos) Γ φ := gt_chain op_le op_lt LeD LtD sem_ord sem_ord h hm
end
end Px
/-! Sequences that stay: two walked at once; tuples that are written at a module's top. -/
namespace Px
open PySem PySem.Spec PyProof.Rows L2 Tc Tz
/-- while the slots keep what is asked, the items stand there -/
def Pers (K : PySem.W.Frag) (keep : List Sl → Prop) (k : Bool) (Hs1 : Hp) (a : Addr) (ds : List PyData) : Prop := ∀ (B : Bas) (Hs : Hp) (σ : L2.St) (H : Hp) (Γ : List Sl), keep Γ → Same Hs1 Hs → Sx B Hs σ H Γ → ∃ vs, SqX k K H a vs ∧ DvAll Hs vs ds
theorem Pers.mono {K : PySem.W.Frag} {keep : List Sl → Prop} {k : Bool} {Hs1 Hs2 : Hp} {a : Addr} {ds : List PyData} (p : Pers K keep k Hs1 a ds) (s : Same Hs1 Hs2) : Pers K keep k Hs2 a ds := fun B Hs σ H Γ kp s2 S => p B Hs σ H Γ kp (s.trans s2) S
def GS (B : Bas) (X : Cx) (k : Bool) (e : Expr) (Γ : List Sl) (φ : List PyData → (List Sl → Prop) → List Sl → Prop) : Prop := ∀ (Hs : Hp) (σ : L2.St) (H : Hp) (Q : VK), Sx B Hs σ H Γ →
  (∀ ds keep Γ' a Hs' H', φ ds keep Γ' → Same Hs Hs' → Sx B Hs' σ H' Γ' → Pers X.K keep k Hs' a ds → Q (.ref a) H') → teW X e σ H Q
/-- a tuple of plain things that is written in the program -/
structure Writ (K : PySem.W.Frag) (mg : Str → Option Value) (x : Str) (a : Addr) (ds : List PyData) : Prop where
  gm : mg x = some (.ref a)
  sq : ∃ vs, (∀ H, SqT K H a vs) ∧ ∀ H, DvAll H vs ds
section
variable {B : Bas} {X : Cx} {Γ : List Sl} {pos : Pos} {E : DE} {P : Program} {w : World} {K : PySem.W.Frag} {mg : Str → Option Value} {base : Heap} {tg : Expr}
theorem gs_list {e : Expr} {φ : List PyData → (List Sl → Prop) → List Sl → Prop} (h : GE B X e Γ fun d Γ1 => ∃ ds, d = .list ds ∧ φ ds (fun _ => True) Γ1) : GS B X true e Γ φ := fun Hs σ H Q S g => h Hs σ H Q S fun d Γ1 v Hs1 H1 ⟨ds, e, p⟩ s S1 q => by
  subst e
  cases q with
  | lst r a => exact g ds _ Γ1 _ Hs1 H1 p s S1 fun B2 Hs2 σ2 H2 Γ2 _ s2 S2 => ⟨_, rdL (rd_up S2.sub (rd_up s2 r)), a.mono s2⟩
theorem gs_tup {e : Expr} {φ : List PyData → (List Sl → Prop) → List Sl → Prop} (h : GE B X e Γ fun d Γ1 => ∃ ds, d = .tuple ds ∧ φ ds (fun _ => True) Γ1) : GS B X false e Γ φ := fun Hs σ H Q S g => h Hs σ H Q S fun d Γ1 v Hs1 H1 ⟨ds, e, p⟩ s S1 q => by
  subst e
  cases q with
  | tup r a => exact g ds _ Γ1 _ Hs1 H1 p s S1 fun B2 Hs2 σ2 H2 Γ2 _ s2 S2 => ⟨_, rdT (rd_up S2.sub (rd_up s2 r)), a.mono s2⟩
theorem gs_writ {x : Str} {a : Addr} {ds : List PyData} {φ : List PyData → (List Sl → Prop) → List Sl → Prop} (hX : SameX X P w K mg base) (W : Writ K mg x a ds) (hg : Gl X x) (h : φ ds (fun _ => True) Γ) (hd : (x == ("__debug__" : Str)) = false) : GS B X false (.Name x pos) Γ φ := fun Hs σ H Q S g => by
  obtain ⟨rfl, rfl, rfl, rfl, rfl⟩ := hX
  obtain ⟨vs, sq, dv⟩ := W.sq
  exact pe_of (pe_glob (v := .ref a) hg W.gm rfl hd) (g ds _ Γ a Hs H h (Same.refl _) S fun B2 Hs2 σ2 H2 Γ2 _ _ _ => ⟨vs, sq H2, dv Hs2⟩)
theorem pers_q {k : Bool} {Hs H : Hp} {σ : L2.St} {keep : List Sl → Prop} {a : Addr} {ds : List PyData} (p : Pers X.K keep k Hs a ds) (S : Sx B Hs σ H Γ) (kp : keep Γ) : ∃ vs, SqX k X.K H a vs ∧ DvAll Hs vs ds := p B Hs σ H Γ kp (Same.refl _) S
/-- a sequence that stays, looked at -/
theorem gq_ofS {k : Bool} {e : Expr} {φ : List PyData → List Sl → Prop} (h : GS B X k e Γ fun ds keep Γ1 => keep Γ1 ∧ φ ds Γ1) : GQ B X k e Γ φ := fun Hs σ H Q S g => h Hs σ H Q S fun ds keep Γ1 a Hs1 H1 ⟨kp, p⟩ s S1 pr => by
  obtain ⟨vs, q, d⟩ := pers_q pr S1 kp
  refine g ds Γ1 a vs Hs1 H1 p s S1 ?_ d
  cases k with
  | true => exact q
  | false => exact q
/-! ### zip -/
theorem its_zip {k kk : Bool} {K : PySem.W.Frag} {keep keep2 : List Sl → Prop} {Hs : Hp} {a b : Addr} {ds es : List PyData} (p : Pers K keep k Hs a ds) (q : Pers K keep2 kk Hs b es) {n : Nat} (hn : n = min ds.length es.length) :
    Its (fun Γ => keep Γ ∧ keep2 Γ) Hs (Itm K k kk a b) n (fun i => .tuple [nth ds i, nth es i]) := by
  subst hn
  refine ⟨fun H => ∃ us vs, SqX k K H a us ∧ SqX kk K H b vs ∧ us.length = ds.length ∧ vs.length = es.length, (Itm K k kk a b).yld, ⟨?_, ?_, fun _ _ _ _ _ _ y => y⟩, ?_, ?_⟩
  · rintro i H hi ⟨us, vs, q1, q2, l1, l2⟩
    exact ⟨us, vs, us[i]'(by omega), vs[i]'(by omega), q1, q2, by simp [show i < us.length by omega], by simp [show i < vs.length by omega]⟩
  · rintro H ⟨us, vs, q1, q2, l1, l2⟩
    exact ⟨us, vs, q1, q2, by omega⟩
  · rintro B2 Hs2 σ H Γ ⟨k1, k2⟩ s S
    obtain ⟨us, q1, d1⟩ := p B2 Hs2 σ H Γ k1 s S
    obtain ⟨vs, q2, d2⟩ := q B2 Hs2 σ H Γ k2 s S
    exact ⟨us, vs, q1, q2, d1.len, d2.len⟩
  · rintro B2 i Hs2 σ H Γ x H' hi ⟨k1, k2⟩ s S ⟨c, y, z, rfl, hc, rfl, g1, g2⟩
    obtain ⟨us, q1, d1⟩ := p B2 Hs2 σ H Γ k1 s S
    obtain ⟨vs, q2, d2⟩ := q B2 Hs2 σ H Γ k2 s S
    obtain ⟨d, e1, v1⟩ := dvs_get' d1 (g1 us q1)
    obtain ⟨e, e2, v2⟩ := dvs_get' d2 (g2 vs q2)
    obtain ⟨kk2, T⟩ := S.new (o := .tup [y, z]) hc
    refine ⟨_, kk2, T, ?_⟩
    show Dv _ _ (.tuple [nth ds i, nth es i])
    rw [nth_at e1, nth_at e2]
    exact .tup (.inl upd_same) (.cons (v1.mono kk2) (.cons (v2.mono kk2) .nil))
theorem gi_zip (k kk : Bool) {x : Str} {p tpos : Pos} {e f : Expr} {elts : List Expr} {n1 : Nat} {φ : Nat → (Nat → PyData) → (List Sl → Prop) → List Sl → Prop} (hx : x = "zip") (hg : Gl X x) (hm : X.mg x = none)
    (hs : starEach [e, f] X.env = (false, eval e X.env) :: starEach [f] X.env) (hs2 : starEach [f] X.env = (false, eval f X.env) :: starEach [] X.env) (hpl : (backTo pos (starEach [f] X.env)).any (·.1) = false)
    (h : GS B X k e Γ fun ds keep Γ1 => GS B X kk f Γ1 fun es keep2 Γ2 => keep Γ2 ∧ keep2 Γ2 ∧ φ (min ds.length es.length) (fun i => .tuple [nth ds i, nth es i]) (fun Γ => keep Γ ∧ keep2 Γ) Γ2) : GI B X (.Tuple elts n1 tpos) (.Call (.Name x p) [e, f] [] pos) Γ φ := by
  subst hx
  intro Hs σ H R S g
  have args : ∀ (Q : List V → Hp → Prop), (∀ (a b : Addr) ds es keep keep2 Γ2 Hs2 H2, Same Hs Hs2 → Sx B Hs2 σ H2 Γ2 → Pers X.K keep k Hs2 a ds → Pers X.K keep2 kk Hs2 b es → keep Γ2 → keep2 Γ2 → φ (min ds.length es.length) (fun i => .tuple [nth ds i, nth es i]) (fun Γ => keep Γ ∧ keep2 Γ) Γ2 → Q [.ref a, .ref b] H2) → taW X [e, f] σ H Q := fun Q fin =>
    pa_of (pa_cons pe_W (pa_cons pe_W pa_nil hs2) hs) (h Hs σ H _ S fun ds keep Γ1 a Hs1 H1 p1 s1 S1 pr1 => p1 Hs1 σ H1 _ S1 fun es keep2 Γ2 b Hs2 H2 ⟨k1, k2, p2⟩ s2 S2 pr2 => fin a b ds es keep keep2 Γ2 Hs2 H2 (s1.trans s2) S2 (pr1.mono s2) pr2 k1 k2 p2)
  cases k with
  | true =>
    cases kk with
    | true => exact pi_of (RZ.pi_zipA hg hm pa_W hs hpl) (args _ fun a b ds es keep keep2 Γ2 Hs2 H2 s2 S2 pr1 pr2 k1 k2 p2 => by
        obtain ⟨us, q1, d1⟩ := pers_q pr1 S2 k1
        obtain ⟨vs, q2, d2⟩ := pers_q pr2 S2 k2
        exact ⟨a, b, us, vs, rfl, .inl ⟨q1, q2, g _ _ _ Γ2 _ Hs2 H2 p2 s2 S2 (its_zip (k := true) (kk := true) pr1 pr2 rfl)⟩⟩)
    | false => exact pi_of (pi_zipM hg hm pa_W hs hpl) (args _ fun a b ds es keep keep2 Γ2 Hs2 H2 s2 S2 pr1 pr2 k1 k2 p2 => by
        obtain ⟨us, q1, d1⟩ := pers_q pr1 S2 k1
        obtain ⟨vs, q2, d2⟩ := pers_q pr2 S2 k2
        exact ⟨true, false, a, b, us, vs, rfl, by decide, q1, q2, g _ _ _ Γ2 _ Hs2 H2 p2 s2 S2 (its_zip pr1 pr2 rfl)⟩)
  | false =>
    cases kk with
    | true => exact pi_of (pi_zipM hg hm pa_W hs hpl) (args _ fun a b ds es keep keep2 Γ2 Hs2 H2 s2 S2 pr1 pr2 k1 k2 p2 => by
        obtain ⟨us, q1, d1⟩ := pers_q pr1 S2 k1
        obtain ⟨vs, q2, d2⟩ := pers_q pr2 S2 k2
        exact ⟨false, true, a, b, us, vs, rfl, by decide, q1, q2, g _ _ _ Γ2 _ Hs2 H2 p2 s2 S2 (its_zip pr1 pr2 rfl)⟩)
    | false => exact pi_of (RZ.pi_zipA hg hm pa_W hs hpl) (args _ fun a b ds es keep keep2 Γ2 Hs2 H2 s2 S2 pr1 pr2 k1 k2 p2 => by
        obtain ⟨us, q1, d1⟩ := pers_q pr1 S2 k1
        obtain ⟨vs, q2, d2⟩ := pers_q pr2 S2 k2
        exact ⟨a, b, us, vs, rfl, .inr ⟨q1, q2, g _ _ _ Γ2 _ Hs2 H2 p2 s2 S2 (its_zip (k := false) (kk := false) pr1 pr2 rfl)⟩⟩)
end
end Px
/-! Comprehensions that only look; further operators. -/
namespace Px
open PySem PySem.Spec PyProof.Rows L2 Tc Tz
theorem clr_clr (Γ : List Sl) (vs : List Nat) : clr (clr Γ vs) vs = clr Γ vs := by
  refine List.ext_getElem? fun j => ?_
  by_cases e : j ∈ vs
  · by_cases l : j < Γ.length
    · have h1 : ∃ s, (clr (clr Γ vs) vs)[j]? = some s := ⟨_, List.getElem?_eq_getElem (by rw [clr_len, clr_len]; exact l)⟩
      have h2 : ∃ s, (clr Γ vs)[j]? = some s := ⟨_, List.getElem?_eq_getElem (by rw [clr_len]; exact l)⟩
      obtain ⟨s, h1⟩ := h1
      obtain ⟨t, h2⟩ := h2
      rw [h1, h2, clr_in e h1, clr_in e h2]
    · rw [List.getElem?_eq_none (by rw [clr_len, clr_len]; omega), List.getElem?_eq_none (by rw [clr_len]; omega)]
  · exact clr_out e
section
variable {B : Bas} {X : Cx} {Γ : List Sl} {pos : Pos} {k : Nat}
/-- [elt for t in iter if ..] that leaves the slots as they are: p tells which items, F what of them -/
theorem gf_look {elt t iter : Expr} {ifs : List Expr} {scope : Scope} {own : List (Str × Nat)} {φ : List PyData → List Sl → Prop} (calm : X.calm = true) (nd : X.N.Nodup) (ok : blkC X.N X.env.scope scope own = true)
    (hs : ∀ x, foldedSetIterable iter X.env x = pure x)
    (h : GI B X t iter Γ fun n f keep Γ1 => keep (clr Γ1 (own.map (·.2))) ∧ n ≤ sizeLine ∧ ∃ (p : Nat → Bool) (F : Nat → PyData),
      (∀ i, i < n → ∀ B', Blk X scope fun Y => GC B' Y (own.map (·.2)) t (f i) (clr Γ1 (own.map (·.2))) fun Γ2 => Blk X scope fun Y => GP B' Y ifs Γ2 fun b Γ3 => b = p i ∧ if b = true then Blk X scope fun Y => GE B' Y elt Γ3 fun d Γ4 => d = F i ∧ clr Γ4 (own.map (·.2)) = clr Γ1 (own.map (·.2)) else clr Γ3 (own.map (·.2)) = clr Γ1 (own.map (·.2))) ∧
      φ (((List.range n).filter p).map F) (clr Γ1 (own.map (·.2)))) : GF B X (.ListComp elt [⟨t, iter, ifs, 0⟩] scope pos) Γ φ := by
  refine gf_lc calm nd (blkOk_by ok) (hs := hs) fun Hs σ H R S g => h Hs σ H R S fun n f keep Γ1 J Hs1 H1 ⟨kp, hn, p, F, step, fin⟩ s S1 it => g n f keep Γ1 J Hs1 H1 ?_ s S1 it
  refine ⟨fun i acc Γ' => Γ' = clr Γ1 (own.map (·.2)) ∧ acc = ((List.range i).filter p).map F, ⟨rfl, rfl⟩, fun i acc Γ' _ ⟨e, _⟩ => e ▸ kp, ?_, ?_⟩
  · rintro i acc Γ' hi ⟨rfl, rfl⟩ B' s0 H0 C cl fp
    rw [clr_clr]
    intro Hs2 σ2 H2 v Q S2 dv g2
    refine step i hi B' s0 H0 C cl fp Hs2 σ2 H2 v Q S2 dv fun Γ2 Hs3 σ3 H3 p2 s3 S3 w3 => g2 Γ2 Hs3 σ3 H3 (fun s0 H0 C cl fp => ?_) s3 S3 w3
    intro Hs4 σ4 H4 Q4 S4 g4
    refine p2 s0 H0 C cl fp Hs4 σ4 H4 Q4 S4 fun b Γ3 Hs5 H5 ⟨eb, p3⟩ s5 S5 => g4 b Γ3 Hs5 H5 ?_ s5 S5
    have len : (((List.range i).filter p).map F).length < sizeLine := by
      rw [List.length_map]
      exact Nat.lt_of_le_of_lt (List.length_filter_le _ _) (by rw [List.length_range]; omega)
    cases b with
    | false =>
      refine iteF ⟨p3, ?_⟩
      rw [List.range_succ, List.filter_append, List.map_append, show [i].filter p = [] by simp [← eb]]
      simp
    | true =>
      have p3 : Blk X scope fun Y => GE B' Y elt Γ3 fun d Γ4 => d = F i ∧ clr Γ4 (own.map (·.2)) = clr Γ1 (own.map (·.2)) := p3
      refine iteT fun s0 H0 C cl fp Hs6 σ6 H6 Q6 S6 g6 => p3 s0 H0 C cl fp Hs6 σ6 H6 Q6 S6 fun d Γ4 v7 Hs7 H7 ⟨ed, ec⟩ s7 S7 q7 => g6 d Γ4 v7 Hs7 H7 ⟨len, ec, ?_⟩ s7 S7 q7
      rw [List.range_succ, List.filter_append, List.map_append, show [i].filter p = [i] by simp [← eb], ed]
      rfl
  · rintro acc Γ' ⟨rfl, rfl⟩
    exact fin
end
section
variable {B : Bas} {X : Cx} {Γ : List Sl} {pos : Pos} {k : Nat} {a b : Expr} {φ : PyData → List Sl → Prop}
theorem ge_neg (h : GE B X a Γ fun d Γ1 => ∃ i : Int, d = .int i ∧ φ (.int (-i)) Γ1) : GE B X (.UnaryOp .USub a pos) Γ φ := fun Hs σ H Q S g =>
  pe_of (pe_un un_neg pe_W) (h Hs σ H _ S fun d Γ1 v Hs1 H1 ⟨i, e, p⟩ s S1 q => by
    subst e
    cases q
    exact ⟨i, rfl, g _ Γ1 _ Hs1 H1 p s S1 (.int _)⟩)
/-- the length of a sequence that stays -/
theorem ge_lenQ (kq : Bool) {x : Str} {p : Pos} (hx : x = "len") (hg : Gl X x) (hm : X.mg x = none) (he : starEach [a] X.env = (false, eval a X.env) :: starEach [] X.env) (h : GQ B X kq a Γ fun ds Γ1 => φ (.int ds.length) Γ1) : GE B X (.Call (.Name x p) [a] [] pos) Γ φ := by
  subst hx
  intro Hs σ H Q S g
  refine pe_of (pe_callB call_len hg hm (by decide +kernel) (pa_cons pe_W pa_nil he) (he := he)) (show teW X a σ H _ from h Hs σ H _ S fun ds Γ1 c vs Hs1 H1 p s S1 hq dv => ?_)
  show ∃ x n, [V.ref c] = [x] ∧ _
  refine ⟨_, vs.length, rfl, ?_, by rw [dv.len]; exact g _ Γ1 _ Hs1 H1 p s S1 (.int _)⟩
  cases kq with
  | true => exact .inl ⟨vs, hq, rfl⟩
  | false => exact .inr ⟨vs, hq, rfl⟩
end
end Px
/-! Small steps on data, for the automatic run. -/
namespace Px
open PySem PySem.Spec PyProof.Rows L2 Tc
theorem to_ok {d : PyData} {a : PyData → Prop} {b : Addr → PyData → Prop} (h : a d) : (Out.ok d).to a b := h
theorem ite_t {c a b : Prop} {i : Decidable c} (hc : c) (h : a) : @ite Prop c i a b := by
  rw [if_pos hc]
  exact h
theorem ite_f {c a b : Prop} {i : Decidable c} (hc : ¬c) (h : b) : @ite Prop c i a b := by
  rw [if_neg hc]
  exact h
theorem yes_nf : (!false) = true := rfl
theorem no_nt : ¬((!true) = true) := fun e => Bool.noConfusion e
theorem no_ft : ¬(false = true) := fun e => Bool.noConfusion e
theorem eqv_int (i j : Int) : PyData.eqv (.int i) (.int j) = decide (i = j) := by
  first | rfl | simp [PyData.eqv]
theorem eqv_str (x y : Str) : PyData.eqv (.str x) (.str y) = decide (x = y) := by
  first | rfl | simp [PyData.eqv]
theorem all_map {ds : List PyData} {g : PyData → Bool} {k : PyData → Prop} (h : k (.bool (ds.all g))) : AllD (.list (ds.map fun d => .bool (g d))) k := by
  refine ⟨ds.map g, by rw [List.map_map] <;> rfl, ?_⟩
  rw [List.all_map]
  exact h
def asI : PyData → Int
  | .int i => i
  | _ => 0
def isI : PyData → Bool
  | .int _ => true
  | _ => false
theorem ints_of : ∀ {ds : List PyData}, ds.all isI = true → ds = (ds.map asI).map .int
  | [], _ => rfl
  | d :: ds, h => by
    rw [List.all_cons] at h
    obtain ⟨a, b⟩ := (Bool.and_eq_true _ _).mp h
    cases d with
    | int i => exact congrArg (PyData.int i :: ·) (ints_of b)
    | _ => cases a
theorem sum_tup {ds : List PyData} {k : PyData → Prop} (a : ds.all isI = true) (h : k (.int (ds.map asI).sum)) : SumD (.tuple ds) k := ⟨ds.map asI, .inr (congrArg PyData.tuple (ints_of a)), h⟩
theorem sum_lst {ds : List PyData} {k : PyData → Prop} (a : ds.all isI = true) (h : k (.int (ds.map asI).sum)) : SumD (.list ds) k := ⟨ds.map asI, .inl (congrArg PyData.list (ints_of a)), h⟩
def LocB (sc : Scope) (x : Str) : Bool := match sc.names.lookup x with
  | some .local | some .cell => true
  | _ => false
theorem locB_ok {sc : Scope} {x : Str} (h : LocB sc x = true) : Loc sc x := by
  unfold LocB at h
  split at h
  · exact .inl ‹_›
  · exact .inr ‹_›
  · cases h
theorem Cxt.blk {X : Cx} {k : Nat} (c : Cxt X k) (scope : Scope) (s : Shared) (H : Hp) (C : Addr) (cl : List (Str × Addr)) (fp : List Addr) : Cxt (blkX X scope s H C cl fp) k := ⟨c.room, c.gd, c.sm⟩
/-- the block's own names, with their slots -/
def ownS (N : List Str) (sc : Scope) : List (Str × Nat) := sc.names.filterMap fun e => match e.2 with
  | .local | .cell => (idxS N e.1).map fun i => (e.1, i)
  | _ => none
section
variable {B : Bas} {X : Cx} {Γ : List Sl} {pos : Pos} {k : Nat} {vs : List Nat}
/-- a comprehension's name is set -/
theorem gc_n {N : List Str} (nd : N.Nodup) (eN : X.N = N) {i : Nat} {x : Str} {d : PyData} {φ : List Sl → Prop} (hi : idxS X.N x = some i) (hx : LocB X.env.scope x = true) (hf : X.fn x = true ∨ X.env.scope.names.lookup x = some .local) (hm : vs.contains i = true)
    (h : Nat.ble (i + 1) Γ.length = true ∧ φ (Γ.set i (.d d))) : GC B X vs (.Name x pos) d Γ φ :=
  gc_name (eN ▸ nd) i (idxS_ok hi) (locB_ok hx) (List.contains_iff_mem.mp hm) ⟨Nat.le_of_ble_eq_true h.1, h.2⟩ hf
theorem gcs_n {N : List Str} (nd : N.Nodup) (eN : X.N = N) {i : Nat} {x : Str} {p : Pos} {d : PyData} {ts : List Expr} {ds : List PyData} {φ : List Sl → Prop} (hi : idxS X.N x = some i) (hx : LocB X.env.scope x = true) (hf : X.fn x = true ∨ X.env.scope.names.lookup x = some .local) (hm : vs.contains i = true)
    (h : Nat.ble (i + 1) Γ.length = true ∧ GCs B X vs ts ds (Γ.set i (.d d)) φ) (hs : (assignEach (.Name x p :: ts) X.env).map (·.2) = assign (.Name x p) X.env :: (assignEach ts X.env).map (·.2)) : GCs B X vs (.Name x p :: ts) (d :: ds) Γ φ :=
  gcs_cons _ (gc_n nd eN hi hx hf hm ⟨h.1, rfl⟩) h.2 hs
theorem gc_t (calm : X.calm = true) {ts : List Expr} {n1 : Nat} {ds : List PyData} {φ : List Sl → Prop} {n : Nat} (hn : (assignEach ts X.env).length = n) (hl : ds.length = n) (hst : (assignEach ts X.env).findIdx? (·.1) = none) (h : GCs B X vs ts ds Γ φ) : GC B X vs (.Tuple ts n1 pos) (.tuple ds) Γ φ := gc_tup calm h hn hl hst
theorem gf_lk {N : List Str} {elt t iter : Expr} {ifs : List Expr} {scope : Scope} {φ : List PyData → List Sl → Prop} (calm : X.calm = true) (nd : N.Nodup) (eN : X.N = N) {own : List (Str × Nat)} (eo : ownS N scope = own) (ok : blkC N X.env.scope scope own = true)
    (hs : ∀ x, foldedSetIterable iter X.env x = pure x)
    (h : GI B X t iter Γ fun n f keep Γ1 => keep (clr Γ1 (own.map (·.2))) ∧ n ≤ sizeLine ∧ ∃ (p : Nat → Bool) (F : Nat → PyData),
      (∀ i, i < n → ∀ B', Blk X scope fun Y => GC B' Y (own.map (·.2)) t (f i) (clr Γ1 (own.map (·.2))) fun Γ2 => Blk X scope fun Y => GP B' Y ifs Γ2 fun b Γ3 => b = p i ∧ if b = true then Blk X scope fun Y => GE B' Y elt Γ3 fun d Γ4 => d = F i ∧ clr Γ4 (own.map (·.2)) = clr Γ1 (own.map (·.2)) else clr Γ3 (own.map (·.2)) = clr Γ1 (own.map (·.2))) ∧
      φ (((List.range n).filter p).map F) (clr Γ1 (own.map (·.2)))) : GF B X (.ListComp elt [⟨t, iter, ifs, 0⟩] scope pos) Γ φ := gf_look calm (eN ▸ nd) (eN.symm ▸ ok) hs h
theorem len_writ {P : Program} {w : World} {K : PySem.W.Frag} {mg : Str → Option Value} {base : Heap} {x f : Str} {p px : Pos} {a : Addr} {ds : List PyData} {φ : PyData → List Sl → Prop} (hX : SameX X P w K mg base) (W : Writ K mg x a ds) (hx : f = "len") (hg : Gl X f) (hm : X.mg f = none) (hg2 : Gl X x) (h : φ (.int ds.length) Γ) (hd : (x == ("__debug__" : Str)) = false)
    (he : starEach [.Name x px] X.env = (false, eval (.Name x px) X.env) :: starEach [] X.env) : GE B X (.Call (.Name f p) [.Name x px] [] pos) Γ φ :=
  ge_lenQ false hx hg hm he (gq_ofS (gs_writ hX W hg2 ⟨trivial, h⟩ hd))
end
end Px
/-! name = [..] -/
namespace Px
open PySem PySem.Spec PyProof.Rows L2 Tc
section
variable {B : Bas} {X : Cx} {Γ : List Sl} {pos : Pos} {k : Nat}
theorem lc_t {elt t iter : Expr} {ifs : List Expr} {scope : Scope} {own : List (Str × Nat)} {φ : List PyData → List Sl → Prop} 
    (h : GI B X t iter Γ fun n f keep Γ1 => ∃ I : Nat → List PyData → List Sl → Prop, I 0 [] (clr Γ1 (own.map (·.2))) ∧ (∀ i acc Γ, i ≤ n → I i acc Γ → keep Γ) ∧
      (∀ i acc Γ, i < n → I i acc Γ → ∀ B', Blk X scope fun Y => GC B' Y (own.map (·.2)) t (f i) (clr Γ (own.map (·.2))) fun Γ2 => Blk X scope fun Y => GP B' Y ifs Γ2 fun b Γ3 => if b = true then Blk X scope fun Y => GE B' Y elt Γ3 fun d Γ4 => acc.length < sizeLine ∧ I (i + 1) (acc ++ [d]) (clr Γ4 (own.map (·.2))) else I (i + 1) acc (clr Γ3 (own.map (·.2)))) ∧
      ∀ acc Γ, I n acc Γ → φ acc Γ)
    {Hs : Hp} {σ : L2.St} {H : Hp} {Q : VK} (S : Sx B Hs σ H Γ) (g : ∀ ds Γ' a vs Hs' H', φ ds Γ' → Same Hs Hs' → Sx B Hs' σ H' Γ' → B.fr a = none → Hs' a = none → Alone Γ' a → H' a = some (.lst vs) → DvAll Hs' vs ds → Q (.ref a) H') :
    tLc (tiW X t iter) (tgB X scope t) (tpB X scope ifs) (teB X scope elt) (own.map (·.2)) σ H Q :=
  h Hs σ H _ S fun n f keep Γ1 J Hs1 H1 ⟨I, i0, ik, step, done⟩ s S1 ⟨G, Y, w, wg, wy⟩ D hD => by
      obtain ⟨fD, nD, al⟩ := alone_new S1 hD
      refine lc_it w (fun i H' => ∃ acc vs Γ' Hs', I i acc Γ' ∧ Same Hs1 Hs' ∧ Sx B Hs' σ H' Γ' ∧ H' D = some (.lst vs) ∧ DvAll Hs' vs acc ∧ Hs' D = none ∧ Alone Γ' D) ⟨[], [], _, Hs1, i0, Same.refl _, (S1.aside hD).clr rfl (fun _ _ => rfl), upd_same, .nil, nD, fun i b es e => al i b es (clr_some e fun z => nomatch z).2⟩ ?_ ?_ ?_
      · rintro i H' hi ⟨acc, vs, Γ', Hs', p, s', S', _⟩
        exact wg B Hs' σ H' Γ' (ik i acc Γ' hi p) s' S'
      · rintro i x H' H'' hi ⟨acc, vs, Γ', Hs', p, s', S', hD', dv, nD', al'⟩ y
        have SB := S'.hold hD' nD' fD al'
        have g0 : Grow B.fr B.hs Hs' := S'.gr
        obtain ⟨Hs2, s2, S2, dx⟩ := wy _ i Hs' σ H' Γ' x H'' hi (ik i acc Γ' (Nat.le_of_lt hi) p) s' SB y
        have body := step i acc Γ' hi p ⟨upd B.fr D (.lst vs), Hs', B.T⟩
        have S2w : Sx ⟨upd B.fr D (.lst vs), Hs', B.T⟩ Hs2 (wipe σ (own.map (·.2))) H'' (clr Γ' (own.map (·.2))) := S2.clr (wipe_length _ _) fun j hj => wipe_out hj
        have back : ∀ {Γ6 : List Sl} {Hs6 : Hp} {σ6 : L2.St} {H6 : Hp}, wipe σ6 (own.map (·.2)) = wipe σ (own.map (·.2)) → Sx ⟨upd B.fr D (.lst vs), Hs', B.T⟩ Hs6 σ6 H6 Γ6 → Sx B Hs6 σ H6 (clr Γ6 (own.map (·.2))) ∧ H6 D = some (.lst vs) ∧ Hs6 D = none ∧ Alone (clr Γ6 (own.map (·.2))) D := fun {Γ6 Hs6 σ6 H6} w6 S6 => by
          obtain ⟨l, e⟩ := wipe_same w6
          exact (S6.clr (vs := own.map (·.2)) l.symm fun j hj => (e j hj).symm).loose g0 fD nD'
        intro s0 H0 C cl fp
        refine body s0 H0 C cl fp Hs2 (wipe σ (own.map (·.2))) H'' x _ S2w dx fun Γ2 Hs3 σ3 H3 p3 s3 S3 w3 => ?_
        have w3 : wipe σ3 (own.map (·.2)) = wipe σ (own.map (·.2)) := w3.trans (wipe_eq (wipe_length _ _) fun j hj => wipe_out hj)
        refine ⟨w3, fun s0 H0 C cl fp => p3 s0 H0 C cl fp Hs3 σ3 H3 _ S3 fun b Γ3 Hs4 H4 p4 s4 S4 => ?_⟩
        cases b with
        | false =>
          obtain ⟨Sb, hb, nb, ab⟩ := back w3 S4
          have sAll : Same Hs' Hs4 := s2.trans (s3.trans s4)
          exact iteF ⟨acc, vs, _, Hs4, p4, s'.trans sAll, Sb, hb, dv.mono sAll, nb, ab⟩
        | true =>
          have p4 : Blk X scope fun Y => GE _ Y elt Γ3 fun d Γ4 => acc.length < sizeLine ∧ I (i + 1) (acc ++ [d]) (clr Γ4 (own.map (·.2))) := p4
          refine iteT fun s0 H0 C cl fp => p4 s0 H0 C cl fp Hs4 σ3 H4 _ S4 fun d Γ5 v5 Hs5 H5 ⟨hl, p5⟩ s5 S5 q5 => ?_
          obtain ⟨Sb, hb, nb, ab⟩ := back w3 S5
          have sAll : Same Hs' Hs5 := s2.trans (s3.trans (s4.trans s5))
          exact ⟨vs, hb, by rw [dv.len]; exact hl, acc ++ [d], vs ++ [v5], _, Hs5, p5, s'.trans sAll, Sb.beside hb rfl nb fD ab, upd_same, dvs_snoc (dv.mono sAll) q5, nb, ab⟩
      · rintro H' ⟨acc, vs, Γ', Hs', p, s', S', hD', dv, nD', al'⟩
        exact g acc Γ' D vs Hs' H' (done acc Γ' p) (s.trans s') S' fD nD' al' hD' dv
theorem lk_t {elt t iter : Expr} {ifs : List Expr} {scope : Scope} {own : List (Str × Nat)} {φ : List PyData → List Sl → Prop}
    (h : GI B X t iter Γ fun n f keep Γ1 => keep (clr Γ1 (own.map (·.2))) ∧ n ≤ sizeLine ∧ ∃ (p : Nat → Bool) (F : Nat → PyData),
      (∀ i, i < n → ∀ B', Blk X scope fun Y => GC B' Y (own.map (·.2)) t (f i) (clr Γ1 (own.map (·.2))) fun Γ2 => Blk X scope fun Y => GP B' Y ifs Γ2 fun b Γ3 => b = p i ∧ if b = true then Blk X scope fun Y => GE B' Y elt Γ3 fun d Γ4 => d = F i ∧ clr Γ4 (own.map (·.2)) = clr Γ1 (own.map (·.2)) else clr Γ3 (own.map (·.2)) = clr Γ1 (own.map (·.2))) ∧
      φ (((List.range n).filter p).map F) (clr Γ1 (own.map (·.2))))
    {Hs : Hp} {σ : L2.St} {H : Hp} {Q : VK} (S : Sx B Hs σ H Γ) (g : ∀ ds Γ' a vs Hs' H', φ ds Γ' → Same Hs Hs' → Sx B Hs' σ H' Γ' → B.fr a = none → Hs' a = none → Alone Γ' a → H' a = some (.lst vs) → DvAll Hs' vs ds → Q (.ref a) H') :
    tLc (tiW X t iter) (tgB X scope t) (tpB X scope ifs) (teB X scope elt) (own.map (·.2)) σ H Q := by
  refine lc_t (φ := φ) (fun Hs σ H R S g => ?_) S g
  refine h Hs σ H R S fun n f keep Γ1 J Hs1 H1 ⟨kp, hn, p, F, step, fin⟩ s S1 it => g n f keep Γ1 J Hs1 H1 ?_ s S1 it
  refine ⟨fun i acc Γ' => Γ' = clr Γ1 (own.map (·.2)) ∧ acc = ((List.range i).filter p).map F, ⟨rfl, rfl⟩, fun i acc Γ' _ ⟨e, _⟩ => e ▸ kp, ?_, ?_⟩
  · rintro i acc Γ' hi ⟨rfl, rfl⟩ B' s0 H0 C cl fp
    rw [clr_clr]
    intro Hs2 σ2 H2 v Q S2 dv g2
    refine step i hi B' s0 H0 C cl fp Hs2 σ2 H2 v Q S2 dv fun Γ2 Hs3 σ3 H3 p2 s3 S3 w3 => g2 Γ2 Hs3 σ3 H3 (fun s0 H0 C cl fp => ?_) s3 S3 w3
    intro Hs4 σ4 H4 Q4 S4 g4
    refine p2 s0 H0 C cl fp Hs4 σ4 H4 Q4 S4 fun b Γ3 Hs5 H5 ⟨eb, p3⟩ s5 S5 => g4 b Γ3 Hs5 H5 ?_ s5 S5
    have len : (((List.range i).filter p).map F).length < sizeLine := by
      rw [List.length_map]
      exact Nat.lt_of_le_of_lt (List.length_filter_le _ _) (by rw [List.length_range]; omega)
    cases b with
    | false =>
      refine iteF ⟨p3, ?_⟩
      rw [List.range_succ, List.filter_append, List.map_append, show [i].filter p = [] by simp [← eb]]
      simp
    | true =>
      have p3 : Blk X scope fun Y => GE B' Y elt Γ3 fun d Γ4 => d = F i ∧ clr Γ4 (own.map (·.2)) = clr Γ1 (own.map (·.2)) := p3
      refine iteT fun s0 H0 C cl fp Hs6 σ6 H6 Q6 S6 g6 => p3 s0 H0 C cl fp Hs6 σ6 H6 Q6 S6 fun d Γ4 v7 Hs7 H7 ⟨ed, ec⟩ s7 S7 q7 => g6 d Γ4 v7 Hs7 H7 ⟨len, ec, ?_⟩ s7 S7 q7
      rw [List.range_succ, List.filter_append, List.map_append, show [i].filter p = [i] by simp [← eb], ed]
      rfl
  · rintro acc Γ' ⟨rfl, rfl⟩
    exact fin
theorem lockS {B : Bas} {Γ' : List Sl} {Hs' H' : Hp} {σ' : L2.St} {a : Addr} {vs : List V} {ds : List PyData} (T : Sx B Hs' σ' H' Γ') (f : B.fr a = none) (n : Hs' a = none) (al : Alone Γ' a) (ha : H' a = some (.lst vs)) (q : DvAll Hs' vs ds) :
    Same Hs' (upd Hs' a (.lst vs)) ∧ Sx B (upd Hs' a (.lst vs)) σ' H' Γ' ∧ Dv (upd Hs' a (.lst vs)) (.ref a) (.list ds) := by
  have g : Same Hs' (upd Hs' a (.lst vs)) := Same.new n
  refine ⟨g, ⟨T.fr, T.gr.trans ⟨g, fun b nb fb => ?_⟩, fun b u eb => ?_, T.len, fun j t ej => (T.sl j t ej).mono g fun b es z => ?_, T.ap, tabs_fz T.tb ha⟩, .lst (.inl upd_same) (q.mono g)⟩
  · exact (upd_ne fun z => fb (by rw [z]; exact f)).trans nb
  · by_cases z : b = a
    · subst z
      rw [upd_same] at eb
      rw [ha]
      exact eb
    · rw [upd_ne z] at eb
      exact T.sub b u eb
  · subst z
    obtain ⟨_, _, nb, _⟩ := T.lst ej
    exact ⟨(upd_ne (al j b es ej)).trans nb, rfl⟩
theorem set_lk {N : List Str} {E : DE} {x : Str} {py : Pos} {elt t iter : Expr} {ifs : List Expr} {scope : Scope} {lpos : Pos} {i : Nat} (c : Bod X k) (nd : N.Nodup) (eN : X.N = N) {own : List (Str × Nat)} (hi : idxS X.N x = some i) (hx : X.env.scope.names.lookup x = some .local) (eo : ownS N scope = own) (ok : blkC N X.env.scope scope own = true)
    (hsw : swapsWith (.ListComp elt [⟨t, iter, ifs, 0⟩] scope lpos) (some (.Name x py)) pos.line X.env = pure true) (hs : ∀ x, foldedSetIterable iter X.env x = pure x)
    (h : GI B X t iter Γ fun n f keep Γ1 => keep (clr Γ1 (own.map (·.2))) ∧ n ≤ sizeLine ∧ ∃ (p : Nat → Bool) (F : Nat → PyData),
      (∀ i, i < n → ∀ B', Blk X scope fun Y => GC B' Y (own.map (·.2)) t (f i) (clr Γ1 (own.map (·.2))) fun Γ2 => Blk X scope fun Y => GP B' Y ifs Γ2 fun b Γ3 => b = p i ∧ if b = true then Blk X scope fun Y => GE B' Y elt Γ3 fun d Γ4 => d = F i ∧ clr Γ4 (own.map (·.2)) = clr Γ1 (own.map (·.2)) else clr Γ3 (own.map (·.2)) = clr Γ1 (own.map (·.2))) ∧
      (Nat.ble (i + 1) (clr Γ1 (own.map (·.2))).length = true ∧ ∀ a, Alone (clr Γ1 (own.map (·.2))) a → E.nx ((clr Γ1 (own.map (·.2))).set i (.own a (((List.range n).filter p).map F))))) : G1 B X (.Assign [.Name x py] (.ListComp elt [⟨t, iter, ifs, 0⟩] scope lpos) pos) Γ E := fun D Hs σ H R S =>
  ps_of (ps_setLc (wi := tiW X t iter) (g := tgB X scope t) (tt := tpB X scope ifs) (te := teB X scope elt) c.calm (eN ▸ nd) (idxS_ok hi) hx hsw pi_W (blkOk_by (eN.symm ▸ ok)) (fun s0 H0 C cl fp => ⟨fun pins s _ _ _ u _ I r h => tgE (h s0 H0 C cl fp) pins s u I r⟩) (fun s0 H0 C cl fp => ⟨fun pins s _ _ _ I h => tpE (h s0 H0 C cl fp) pins s I⟩) (fun s0 H0 C cl fp => ⟨fun pins s _ _ _ I h => teE (h s0 H0 C cl fp) pins s I⟩) hs)
    (lk_t (φ := fun ds Γ1 => Nat.ble (i + 1) Γ1.length = true ∧ ∀ a, Alone Γ1 a → E.nx (Γ1.set i (.own a ds))) h S fun ds Γ1 a vs Hs1 H1 ⟨l, p⟩ s S1 f n al ha q => R.nx _ Hs1 _ H1 (p a al) s (S1.putL (Nat.le_of_ble_eq_true l) f n ha q al))
theorem set_ld {N : List Str} {E : DE} {x : Str} {py : Pos} {elt t iter : Expr} {ifs : List Expr} {scope : Scope} {lpos : Pos} {i : Nat} (c : Bod X k) (nd : N.Nodup) (eN : X.N = N) {own : List (Str × Nat)} (hi : idxS X.N x = some i) (hx : X.env.scope.names.lookup x = some .local) (eo : ownS N scope = own) (ok : blkC N X.env.scope scope own = true)
    (hsw : swapsWith (.ListComp elt [⟨t, iter, ifs, 0⟩] scope lpos) (some (.Name x py)) pos.line X.env = pure true) (hs : ∀ x, foldedSetIterable iter X.env x = pure x)
    (h : GI B X t iter Γ fun n f keep Γ1 => keep (clr Γ1 (own.map (·.2))) ∧ n ≤ sizeLine ∧ ∃ (p : Nat → Bool) (F : Nat → PyData),
      (∀ i, i < n → ∀ B', Blk X scope fun Y => GC B' Y (own.map (·.2)) t (f i) (clr Γ1 (own.map (·.2))) fun Γ2 => Blk X scope fun Y => GP B' Y ifs Γ2 fun b Γ3 => b = p i ∧ if b = true then Blk X scope fun Y => GE B' Y elt Γ3 fun d Γ4 => d = F i ∧ clr Γ4 (own.map (·.2)) = clr Γ1 (own.map (·.2)) else clr Γ3 (own.map (·.2)) = clr Γ1 (own.map (·.2))) ∧
      (Nat.ble (i + 1) (clr Γ1 (own.map (·.2))).length = true ∧ E.nx ((clr Γ1 (own.map (·.2))).set i (.d (.list (((List.range n).filter p).map F)))))) : G1 B X (.Assign [.Name x py] (.ListComp elt [⟨t, iter, ifs, 0⟩] scope lpos) pos) Γ E := fun D Hs σ H R S =>
  ps_of (ps_setLc (wi := tiW X t iter) (g := tgB X scope t) (tt := tpB X scope ifs) (te := teB X scope elt) c.calm (eN ▸ nd) (idxS_ok hi) hx hsw pi_W (blkOk_by (eN.symm ▸ ok)) (fun s0 H0 C cl fp => ⟨fun pins s _ _ _ u _ I r h => tgE (h s0 H0 C cl fp) pins s u I r⟩) (fun s0 H0 C cl fp => ⟨fun pins s _ _ _ I h => tpE (h s0 H0 C cl fp) pins s I⟩) (fun s0 H0 C cl fp => ⟨fun pins s _ _ _ I h => teE (h s0 H0 C cl fp) pins s I⟩) hs)
    (lk_t (φ := fun ds Γ1 => Nat.ble (i + 1) Γ1.length = true ∧ E.nx (Γ1.set i (.d (.list ds)))) h S fun ds Γ1 a vs Hs1 H1 ⟨l, p⟩ s S1 f n al ha q => by
      obtain ⟨g, S2, d⟩ := lockS S1 f n al ha q
      exact R.nx _ _ _ H1 p (s.trans g) (S2.putD (Nat.le_of_ble_eq_true l) d))
end
end Px
/-! Places of lists of one's own, by names. -/
namespace Px
open PySem PySem.Spec PyProof.Rows L2 Tc
section
variable {B : Bas} {X : Cx} {Γ : List Sl} {E : DE} {pos : Pos} {k : Nat}
theorem ixo_n {i : Nat} {x : Str} {p0 : Pos} {b : Expr} {ad : Addr} {ds : List PyData} {φ : PyData → List Sl → Prop} (hN : idxS X.N x = some i) (hΓ : Γ[i]? = some (.own ad ds)) (hv : Sees X.env.scope x = true) (hs : PlainIx b) (h : GE B X b Γ fun d2 Γ2 => ∃ es, Γ2[i]? = some (.own ad es) ∧ IxD (.list es) d2 fun d => φ d Γ2)
    (hd : (x == ("__debug__" : Str)) = false) (hcd : (x == ("__classdict__" : Str)) = false) : GE B X (.Subscript (.Name x p0) b pos) Γ φ := ge_ixO i (idxS_ok hN) hΓ (sees_ok hv) hs h hd hcd
theorem put_n {i : Nat} {x : Str} {e j : Expr} {p0 ps : Pos} {ad : Addr} {ds0 : List PyData} (hN : idxS X.N x = some i) (hΓ : Γ[i]? = some (.own ad ds0)) (hv : Sees X.env.scope x = true)
    (h : GE B X e Γ fun d Γ1 => (∃ ds, Γ1[i]? = some (.own ad ds)) ∧ GE B X j Γ1 fun dj Γ2 => ∃ ds m, Γ2[i]? = some (.own ad ds) ∧ ∃ n, dj = .int n ∧ ixN ds.length n = some m ∧ E.nx (Γ2.set i (.own ad (ds.set m d))))
    (hd : (x == ("__debug__" : Str)) = false) (hcd : (x == ("__classdict__" : Str)) = false)
    (ha : ∀ v, assign (.Subscript (.Name x p0) j ps) X.env v = (do
      let ov ← holding [v] (eval (.Name x p0) X.env)
      let iv ← holding [v, ov] (eval j X.env)
      standAt ps
      holding [v, ov, iv] (setItem ov iv v)
      release [v, ov, iv] []))
    (hs : swapsWithSole [.Subscript (.Name x p0) j ps] e pos.line X.env = pure false) (hw : swappedStores [.Subscript (.Name x p0) j ps] e X.env = pure none)
    (h1 : (assignEach [.Subscript (.Name x p0) j ps] X.env).map (·.2) = [assign (.Subscript (.Name x p0) j ps) X.env]) : G1 B X (.Assign [.Subscript (.Name x p0) j ps] e pos) Γ E := g1_put i (idxS_ok hN) (sees_ok hv) h hd hcd ha hs hw h1
/-- a place of a list as a target -/
theorem gg_put {i : Nat} {x : Str} {j : Expr} {p0 : Pos} {ad : Addr} {ds0 : List PyData} {d : PyData} {φ : List Sl → Prop} (hN : idxS X.N x = some i) (hΓ : Γ[i]? = some (.own ad ds0)) (hv : Sees X.env.scope x = true)
    (h : GE B X j Γ fun dj Γ2 => ∃ ds m, Γ2[i]? = some (.own ad ds) ∧ ∃ n, dj = .int n ∧ ixN ds.length n = some m ∧ φ (Γ2.set i (.own ad (ds.set m d))))
    (hd : (x == ("__debug__" : Str)) = false) (hcd : (x == ("__classdict__" : Str)) = false)
    (ha : ∀ v, assign (.Subscript (.Name x p0) j pos) X.env v = (do
      let ov ← holding [v] (eval (.Name x p0) X.env)
      let iv ← holding [v, ov] (eval j X.env)
      standAt pos
      holding [v, ov, iv] (setItem ov iv v)
      release [v, ov, iv] [])) : GG B X (.Subscript (.Name x p0) j pos) d Γ φ := fun Hs σ H v Q S q g => by
  refine pg_of (pg_sub (pe_var (idxS_ok hN) (sees_ok hv) hd hcd) pe_W set_list ha) ?_
  obtain ⟨e1, _⟩ := S.lst hΓ
  refine ⟨_, e1, h Hs σ H _ S fun dj Γ2 vj Hs2 H2 ⟨ds, m, g2, n, ej, ix, nx⟩ s2 S2 qj => ?_⟩
  subst ej
  cases qj
  obtain ⟨_, _, _, vs, hv2, dv⟩ := S2.lst g2
  exact ⟨ad, vs, n, m, rfl, rfl, hv2, by rw [dv.len]; exact ix, g _ Hs2 σ _ nx s2 (S2.upd g2 (dvs_set m dv (q.mono s2)))⟩
theorem gg_n {N : List Str} (nd : N.Nodup) (eN : X.N = N) {i : Nat} {x : Str} {d : PyData} {φ : List Sl → Prop} (hi : idxS X.N x = some i) (hx : LocB X.env.scope x = true) (hf : X.fn x = true ∨ X.env.scope.names.lookup x = some .local)
    (h : Nat.ble (i + 1) Γ.length = true ∧ φ (Γ.set i (.d d))) : GG B X (.Name x pos) d Γ φ := gg_name (eN ▸ nd) i (idxS_ok hi) (locB_ok hx) ⟨Nat.le_of_ble_eq_true h.1, h.2⟩ hf
theorem gg_t (calm : X.calm = true) {ts : List Expr} {n1 : Nat} {ds : List PyData} {φ : List Sl → Prop} {n : Nat} (hn : (assignEach ts X.env).length = n) (hl : ds.length = n) (hst : (assignEach ts X.env).findIdx? (·.1) = none) (h : GGs B X ts ds Γ φ) : GG B X (.Tuple ts n1 pos) (.tuple ds) Γ φ := gg_tup calm h hn hl hst
theorem ggs_put {i : Nat} {x : Str} {j : Expr} {p0 ps : Pos} {ad : Addr} {ds0 : List PyData} {d : PyData} {ts : List Expr} {ds : List PyData} {φ : List Sl → Prop} {n : Int} {m : Nat} (hN : idxS X.N x = some i) (hΓ : Γ[i]? = some (.own ad ds0)) (hv : Sees X.env.scope x = true)
    (hj : ∀ ψ : PyData → List Sl → Prop, ψ (.int n) Γ → GE B X j Γ ψ) (hm : ixN ds0.length n = some m)
    (h : GGs B X ts ds (Γ.set i (.own ad (ds0.set m d))) φ)
    (hd : (x == ("__debug__" : Str)) = false) (hcd : (x == ("__classdict__" : Str)) = false)
    (ha : ∀ v, assign (.Subscript (.Name x p0) j ps) X.env v = (do
      let ov ← holding [v] (eval (.Name x p0) X.env)
      let iv ← holding [v, ov] (eval j X.env)
      standAt ps
      holding [v, ov, iv] (setItem ov iv v)
      release [v, ov, iv] []))
    (hs : (assignEach (.Subscript (.Name x p0) j ps :: ts) X.env).map (·.2) = assign (.Subscript (.Name x p0) j ps) X.env :: (assignEach ts X.env).map (·.2)) : GGs B X (.Subscript (.Name x p0) j ps :: ts) (d :: ds) Γ φ :=
  ggs_cons _ (gg_put hN hΓ hv (hj _ ⟨ds0, m, hΓ, n, rfl, hm, rfl⟩) hd hcd ha) h hs
theorem ggs_put0 {i : Nat} {x : Str} {p0 ps cp : Pos} {ad : Addr} {ds0 : List PyData} {d : PyData} {ts : List Expr} {ds : List PyData} {φ : List Sl → Prop} {n : Int} {m k0 : Nat} (hN : idxS X.N x = some i) (hΓ : Γ[i]? = some (.own ad ds0)) (hv : Sees X.env.scope x = true)
    (hm : ixN ds0.length n = some m)
    (h : GGs B X ts ds (Γ.set i (.own ad (ds0.set m d))) φ)
    (hd : (x == ("__debug__" : Str)) = false) (hcd : (x == ("__classdict__" : Str)) = false)
    (ha : ∀ v, assign (.Subscript (.Name x p0) (.Constant (.int n) k0 cp) ps) X.env v = (do
      let ov ← holding [v] (eval (.Name x p0) X.env)
      let iv ← holding [v, ov] (eval (.Constant (.int n) k0 cp) X.env)
      standAt ps
      holding [v, ov, iv] (setItem ov iv v)
      release [v, ov, iv] []))
    (hs : (assignEach (.Subscript (.Name x p0) (.Constant (.int n) k0 cp) ps :: ts) X.env).map (·.2) = assign (.Subscript (.Name x p0) (.Constant (.int n) k0 cp) ps) X.env :: (assignEach ts X.env).map (·.2)) : GGs B X (.Subscript (.Name x p0) (.Constant (.int n) k0 cp) ps :: ts) (d :: ds) Γ φ :=
  ggs_put hN hΓ hv (fun ψ h => ge_int h) hm h hd hcd ha hs
theorem ggs_n {N : List Str} (nd : N.Nodup) (eN : X.N = N) {i : Nat} {x : Str} {p : Pos} {d : PyData} {ts : List Expr} {ds : List PyData} {φ : List Sl → Prop} (hi : idxS X.N x = some i) (hx : LocB X.env.scope x = true) (hf : X.fn x = true ∨ X.env.scope.names.lookup x = some .local)
    (h : Nat.ble (i + 1) Γ.length = true ∧ GGs B X ts ds (Γ.set i (.d d)) φ) (hs : (assignEach (.Name x p :: ts) X.env).map (·.2) = assign (.Name x p) X.env :: (assignEach ts X.env).map (·.2)) : GGs B X (.Name x p :: ts) (d :: ds) Γ φ :=
  ggs_cons _ (gg_n nd eN hi hx hf ⟨h.1, rfl⟩) h.2 hs
theorem asg_t {ts : List Expr} {n1 : Nat} {tp : Pos} {e : Expr} (h : GE B X e Γ fun d Γ1 => GG B X (.Tuple ts n1 tp) d Γ1 E.nx) (hs : swapsWithSole [.Tuple ts n1 tp] e pos.line X.env = pure false) (hw : swappedStores [.Tuple ts n1 tp] e X.env = pure none)
    (h1 : (assignEach [.Tuple ts n1 tp] X.env).map (·.2) = [assign (.Tuple ts n1 tp) X.env]) : G1 B X (.Assign [.Tuple ts n1 tp] e pos) Γ E := g1_asg h hs hw h1
theorem mod_i {i j : Int} {k : PyData → Prop} (c : 0 < j) (h : k (.int (i % j))) : IntD (fun _ j => 0 < j) (fun i j => i % j) (.int i) (.int j) k := ⟨c, h⟩
theorem fdiv_i {i j : Int} {k : PyData → Prop} (c : 0 < j) (c2 : j.natAbs < 2 ^ 600) (h : k (.int (i / j))) : IntD CDivW (fun i j => i / j) (.int i) (.int j) k := ⟨wide_div c c2 (by decide) (by decide), h⟩
end
end Px
namespace Px
open PySem PySem.Spec PyProof.Rows L2 Tc
section
variable {B : Bas} {X : Cx} {Γ : List Sl} {E : DE} {pos : Pos} {k : Nat}
theorem add_l2 {xs ys : List PyData} {k : PyData → Prop} (l : Nat.ble (xs.length + ys.length) 1000 = true) (h : k (.list (xs ++ ys))) : AddD (.list xs) (.list ys) k := add_ll (Nat.le_trans (Nat.le_of_ble_eq_true l) (by decide)) h
end
end Px
/-! Things that are not tracked, tracked while a def runs; and the other way round. -/
namespace Py
open PySem PySem.Spec PyProof.Rows L2 Tc Px
abbrev Pins := List (Addr × Obj)
/-- this very object stands there -/
def ObO (a : Addr) (o : Obj) : HO := .ext fun h => h.get? a = some o
def back (H2 H' : Hp) (L : Pins) : Hp := fun b => match L.lookup b with
  | some _ => H2 b
  | none => H' b
section
variable {H H' H2 : Hp} {L : Pins} {b : Addr} {o : Obj}
/-- what is to be tracked for a while -/
structure Free (L : Pins) (H : Hp) (h : Heap) (fs : List Addr) : Prop where
  at_ : ∀ b o, L.lookup b = some o → h.get? b = some o
  no : ∀ b o, L.lookup b = some o → H b = none
  fr : ∀ b o, L.lookup b = some o → b ∉ fs
theorem Free.out {h : Heap} {fs : List Addr} (F : Free L H h fs) {u : HO} (e : H b = some u) : L.lookup b = none := by
  cases q : L.lookup b with
  | none => rfl
  | some o => rw [F.no b o q] at e; cases e
section
variable {P : Program} {w : World} {h h' B : Heap} {fs : List Addr}
/-- all of them are there still -/
def Kept (L : Pins) (H' : Hp) : Prop := ∀ b o, L.lookup b = some o → H' b = some (ObO b o)
theorem Kept.at_ (K : Kept L H') (k : HOk P w H' h) {b : Addr} {o : Obj} (q : L.lookup b = some o) : h.get? b = some o := by
  obtain ⟨e, _⟩ : h.get? b = some o ∧ _ := k b _ (K b o q)
  exact e
/-! the other way -/
end
end
end Py
/-! A lambda without parameters as a value: what a call of it gives. -/
namespace Py
open PySem PySem.Spec PyProof.Rows L2 Tc Px
open LamX (LamS lamCx lamEnv Tabs TabB ExtN CodeO TabS)
/-- what calling the function at a gives -/
structure ActS (P : Program) (w : World) (K : PySem.W.Frag) (mg : Str → Option Value) (base : Heap) (k : Nat) (H Hs : Hp) (a : Addr) (out : Out) : Prop where
  obj : ∃ oc od fd osl, H a = some (ObO a ⟨oc, od, .func fd, osl⟩)
  run : ∀ (A : Around) (outer : List Env) (s : Shared) (H2 Hs2 : Hp) (Q : VK) (E : XK), Room k A → A.guards = some [] → Env0 P w K mg base A outer s H2 → Same H H2 → Grow H Hs Hs2 → Same Hs2 H2 →
    (∀ v Hs' H', Same H2 H' → Same Hs' H' → Grow H2 Hs2 Hs' → out.to (fun d => Dv Hs' v d → Q v H') (fun C d => Dv Hs' v d → upE C v H' E)) →
    codeAny (model P w) A (.call (.ref a) ⟨[], []⟩) (CR (L2.CX P w) outer P w H2 s Q E) s
end Py
/-! A lambda is made: its object is tracked from then on. -/
namespace Py
open PySem PySem.Spec PyProof.Rows L2 Tc Px
open LamX (LamS lamCx lamEnv Tabs TabB ExtN CodeO TabS)
abbrev lamQ (X : Cx) : Str := X.env.qual ++ "<lambda>"
abbrev lamO (X : Cx) (params : Arguments) (body : Expr) (scope : Scope) (pm : Value) (c' : Addr) (ctv : Value) : Obj := PySem.W.kla_obj "<lambda>" (lamQ X) params body scope (cloFrom X.env.cells scope.names []) pm c' ctv
end Py
/-! Values that are no data: a def gets them, calls them, walks a list of them; a caught exception as an argument. -/
namespace Py
open PySem PySem.Spec PyProof.Rows L2 Tc Px
theorem ActS.mono {P : Program} {w : World} {K : PySem.W.Frag} {mg : Str → Option Value} {base : Heap} {k : Nat} {H Hs H' Hs' : Hp} {a : Addr} {out : Out} (A : ActS P w K mg base k H Hs a out) (s : Same H H') (g : Grow H Hs Hs') : ActS P w K mg base k H' Hs' a out := by
  refine ⟨?_, fun A' outer st H2 Hs2 Q E hr hg e0 s2 g2 u2 q => A.run A' outer st H2 Hs2 Q E hr hg e0 (s.trans s2) (g.trans (g2.mono fun b nb => ?_)) u2 q⟩
  · obtain ⟨oc, od, fd, osl, h⟩ := A.obj
    exact ⟨oc, od, fd, osl, s _ _ h⟩
  · cases q : H b with
    | none => exact absurd q nb
    | some u =>
      rw [s b u q]
      exact fun z => nomatch z
end Py
namespace Py
open PySem PySem.Spec PyProof.Rows L2 Tc Px
end Py
/-! Further built-ins on data. -/
namespace Py
open PySem PySem.Spec PyProof.Rows L2 Tc Px
section
variable {B : Bas} {X : Cx} {Γ : List Sl} {pos ap : Pos} {k : Nat} {E : DE} {φ : PyData → List Sl → Prop} {a b : Expr}
abbrev Few (X : Cx) (cpos : Pos) (e : Expr) (es : List Expr) : Prop := ((backTo cpos (starEach (e :: es) X.env)).all (fun x => !x.1) && (backToKw cpos (keywordEach [] X.env)).all (fun x => x.1.isSome)
      && decide ((e :: es).length + ([] : List Keyword).length + (if ([] : List Keyword).isEmpty then 0 else 1) < 30)) = true
/-- x.append(e), x a list of one's own -/
theorem g1_append {i : Nat} {x : Str} {xp : Pos} {e : Expr} {spos : Pos} {ad : Addr} {ds0 : List PyData} (hN : idxS X.N x = some i) (hΓ : Γ[i]? = some (.own ad ds0)) (hv : Sees X.env.scope x = true)
    (h : GE B X e Γ fun d Γ1 => ∃ ds, Γ1[i]? = some (.own ad ds) ∧ ds.length < sizeLine ∧ E.nx (Γ1.set i (.own ad (ds ++ [d]))))
    (hd : (x == ("__debug__" : Str)) = false) (hcd : (x == ("__classdict__" : Str)) = false)
    (hb : attributeBase (.Name x xp) "append" X.env (eval (.Name x xp) X.env) = eval (.Name x xp) X.env) (hf : Few X pos e []) (hl : (ap.endLine == pos.line) = true) (hs : starEach [e] X.env = (false, eval e X.env) :: starEach [] X.env)
    (hw : swapsWith (.Call (.Attribute (.Name x xp) "append" ap) [e] [] pos) none spos.line X.env = pure false) : G1 B X (.Expr (.Call (.Attribute (.Name x xp) "append" ap) [e] [] pos) spos) Γ E := fun D Hs σ H R S =>
  ps_of (ps_expr (pe_bm PySem.F.plainAttrs_list PySem.F.slot_list_append PySem.F.type_list_append mt_append (pe_var (idxS_ok hN) (sees_ok hv) hd hcd) (pa_cons pe_W pa_nil hs) hb hf hl hs rfl) hw) (by
    obtain ⟨e1, _, _, vs, hv1, _⟩ := S.lst hΓ
    refine ⟨_, e1, .inl ⟨rfl, _, .inl (.inl hv1)⟩, show teW X e σ H _ from h Hs σ H _ S fun d Γ1 v Hs1 H1 ⟨ds, g1, hz, p⟩ s S1 q => ?_⟩
    obtain ⟨_, _, _, ws, hw1, dv⟩ := S1.lst g1
    exact ⟨ad, ws, v, rfl, rfl, hw1, by rw [dv.len]; exact hz, R.nx _ Hs1 σ _ p s (S1.upd g1 (dvs_snoc dv q))⟩)
end
end Py
namespace Py
open PySem PySem.Spec PyProof.Rows L2 Tc Px
end Py
/-! A call with some things tracked for it; try: .. except (A, B, C) as e: return word(e). -/
namespace Py
open PySem PySem.Spec PyProof.Rows L2 Tc Px
open L2H (RoomH PinOk cxH inv_startH)
theorem Sx.un {B : Bas} {Hs Hs' : Hp} {σ : L2.St} {H : Hp} {Γ : List Sl} (g : Grow B.fr B.hs Hs) (S : Sx ⟨B.fr, Hs, B.T⟩ Hs' σ H Γ) : Sx B Hs' σ H Γ := ⟨S.fr, g.trans S.gr, S.sub, S.len, S.sl, S.ap, S.tb⟩
theorem pass_never {X : Cx} {σ : L2.St} : PassesAt (L2.CX X.prog X.w) X σ (fun _ _ _ => False) := fun pins H s e s' I c => by
  obtain ⟨_, _, _, _, _, _, _, _, _, _, _, _, h⟩ := c
  exact h.elim
/-! ### a def that an except suite calls with its exception -/
end Py
/-! list * int; how long what repr shows is. -/
namespace Py
open PySem PySem.Spec PyProof.Rows L2 Tc Px
/-! ### what repr shows -/
def GN (n k : Nat) (d : PyData) : Prop := d.showable = true ∧ d.depth ≤ k ∧ d.shown.length ≤ n
instance (n k : Nat) (d : PyData) : Decidable (GN n k d) := by unfold GN; exact inferInstance
theorem GN.mono {n k m l : Nat} {d : PyData} (h : GN n k d) (h1 : n ≤ m) (h2 : k ≤ l) : GN m l d := ⟨h.1, Nat.le_trans h.2.1 h2, Nat.le_trans h.2.2 h1⟩
theorem GN.good {n k : Nat} {d : PyData} (h : GN n k d) (h1 : n ≤ 1000000) (h2 : k ≤ 100) : Good d := ⟨h.1, Nat.le_trans h.2.1 h2, Nat.le_trans h.2.2 (Nat.le_trans h1 (by decide))⟩
theorem all_gn {n k : Nat} : ∀ {ds : List PyData}, (∀ d ∈ ds, GN n k d) → PyData.showableAll ds = true ∧ PyData.depthAll ds ≤ k ∧ piled (PyData.shownAll ds) ≤ ds.length * (n + 2)
  | [], _ => ⟨rfl, Nat.zero_le _, Nat.zero_le _⟩
  | d :: r, h => by
    obtain ⟨a1, a2, a3⟩ := h d List.mem_cons_self
    obtain ⟨b1, b2, b3⟩ := all_gn (ds := r) fun e he => h e (List.mem_cons_of_mem _ he)
    refine ⟨?_, ?_, ?_⟩
    · show (PyData.showable d && PyData.showableAll r) = true
      rw [a1, b1] <;> rfl
    · show max (PyData.depth d) (PyData.depthAll r) ≤ k
      omega
    · show piled (PyData.shown d :: PyData.shownAll r) ≤ _
      rw [piled_cons, List.length_cons, Nat.add_mul]
      omega
theorem from_le : ∀ (ts : List Str) (k : Nat) (acc : Str), (textFrom k acc ts).length ≤ acc.length + piled ts
  | [], k, acc => Nat.le_add_right _ _
  | t :: r, k, acc => by
    have ih := from_le r (k + 1) (acc ++ (if k > 0 then ", " else "" : String) ++ t)
    show (textFrom (k + 1) (acc ++ (if k > 0 then ", " else "" : String) ++ t) r).length ≤ _
    rw [piled_cons]
    have e : (acc ++ (if k > 0 then ", " else "" : String) ++ t : Str).length ≤ acc.length + 2 + t.length := by
      rw [Str.length_append, Str.length_append]
      have : (Str.ofString (if k > 0 then ", " else "" : String)).length ≤ 2 := by
        split <;> decide
      omega
    omega
theorem gn_list {n k : Nat} {ds : List PyData} (h : ∀ d ∈ ds, GN n k d) : GN (ds.length * (n + 2) + 2) (k + 1) (.list ds) := by
  obtain ⟨a1, a2, a3⟩ := all_gn h
  refine ⟨a1, Nat.succ_le_succ a2, ?_⟩
  show (textFrom 0 "[" (PyData.shownAll ds) ++ "]" : Str).length ≤ _
  rw [Str.length_append]
  have z := from_le (PyData.shownAll ds) 0 "["
  have e1 : (Str.ofString "[").length = 1 := by decide
  have e2 : (Str.ofString "]").length = 1 := by decide
  omega
theorem gn_tup {n k : Nat} {ds : List PyData} (h : ∀ d ∈ ds, GN n k d) : GN (ds.length * (n + 2) + 3) (k + 1) (.tuple ds) := by
  obtain ⟨a1, a2, a3⟩ := all_gn h
  refine ⟨a1, Nat.succ_le_succ a2, ?_⟩
  show (("(" : Str) ++ Str.join ", " (PyData.shownAll ds) ++ (if (PyData.shownAll ds).length == 1 then ",)" else ")" : String)).length ≤ _
  rw [Str.length_append, Str.length_append]
  have e1 : (Str.ofString "(").length = 1 := by decide
  have e2 : (Str.ofString (if (PyData.shownAll ds).length == 1 then ",)" else ")" : String)).length ≤ 2 := by split <;> decide
  have e3 : (Str.join ", " (PyData.shownAll ds)).length ≤ piled (PyData.shownAll ds) := by
    by_cases z : PyData.shownAll ds = []
    · rw [z]
      decide
    · have := join_length_add _ z
      omega
  omega
theorem gn_int {i : Int} (h0 : -1 ≤ i) (h1 : i ≤ 100000) : GN 13 0 (.int i) := by
  have f := Fine.int h0 h1
  exact ⟨f.sh, f.dp, of_decide_eq_true f.short⟩
end Py
namespace Py
open PySem PySem.Spec PyProof.Rows L2 Tc Px
end Py
/-! Two names at once; lists by tests; comprehensions that change something; numbers that add up. -/
namespace Py
open PySem PySem.Spec PyProof.Rows L2 Tc Px
section
variable {B : Bas} {X : Cx} {Γ : List Sl} {pos : Pos} {k : Nat} {E : DE} {N : List Str}
/-- x, y = a, b -/
theorem par_n {i j : Nat} {x y : Str} {a b : Expr} {px py pt : Pos} {kt k2 : Nat} {pt2 : Pos} (c : Bod X k) (nd : N.Nodup) (eN : X.N = N) (hi : idxS X.N x = some i) (hj : idxS X.N y = some j) (hij : Nat.beq i j = false)
    (hx : X.env.scope.names.lookup x = some .local) (hy : X.env.scope.names.lookup y = some .local)
    (hw : swappedStores [.Tuple [.Name x px, .Name y py] kt pt] (.Tuple [a, b] k2 pt2) X.env = pure (some [x, y])) (hs : swapsWithSole [.Tuple [.Name x px, .Name y py] kt pt] (.Tuple [a, b] k2 pt2) pos.line X.env = pure false)
    (h : GA B X [a, b] Γ fun ds Γ1 => ∃ d e, ds = [d, e] ∧ Nat.ble (i + 1) Γ1.length = true ∧ Nat.ble (j + 1) Γ1.length = true ∧ E.nx ((Γ1.set i (.d d)).set j (.d e))) : G1 B X (.Assign [.Tuple [.Name x px, .Name y py] kt pt] (.Tuple [a, b] k2 pt2) pos) Γ E := fun D Hs σ H R S =>
  ps_of (ps_par c.calm (eN ▸ nd) (idxS_ok hi) (idxS_ok hj) (Nat.ne_of_beq_eq_false hij) hx hy pa_W hw hs) (h Hs σ H _ S fun ds Γ1 vs Hs1 H1 ⟨d, e, ed, l1, l2, p⟩ s S1 dv => by
    subst ed
    cases dv with
    | cons a1 r =>
    cases r with
    | cons a2 r =>
    cases r
    refine ⟨_, _, rfl, R.nx _ Hs1 _ H1 p s ((S1.putD (Nat.le_of_ble_eq_true l1) a1).putD (by rw [List.length_set]; exact Nat.le_of_ble_eq_true l2) a2)⟩)
end
/-! ### lists of numbers from 0 on -/
theorem ix_k {xs : List PyData} {i : Int} {k : PyData → Prop} (h0 : 0 ≤ i) (h1 : i < xs.length) (h : k (nth xs i.toNat)) : IxD (.list xs) (.int i) k := by
  have l : i.toNat < xs.length := by omega
  refine ⟨nth xs i.toNat, ?_, h⟩
  have e : xs[i.toNat]? = some (nth xs i.toNat) := by
    rw [List.getElem?_eq_getElem l]
    exact congrArg some (nth_at (List.getElem?_eq_getElem l)).symm
  unfold atD ixN
  rw [if_pos h0, if_pos h1]
  exact e
theorem ixN_k {n : Nat} {i : Int} (h0 : 0 ≤ i) (h1 : i < n) : ixN n i = some i.toNat := by
  unfold ixN
  rw [if_pos h0, if_pos h1]
structure Nats (m : Nat) (n : Int) (ds : List PyData) : Prop where
  len : ds.length = m
  nat : ∀ i, i < m → nth ds i = .int (asI (nth ds i)) ∧ 0 ≤ asI (nth ds i)
  sum : (ds.map asI).sum = n
theorem nth_set {ds : List PyData} {k i : Nat} {d : PyData} (h : k < ds.length) : nth (ds.set k d) i = if i = k then d else nth ds i := by
  show (ds.set k d).getD i .none = if i = k then d else ds.getD i .none
  rw [List.getD_eq_getElem?_getD, List.getD_eq_getElem?_getD, List.getElem?_set]
  by_cases e : k = i
  · subst e
    rw [if_pos rfl, if_pos rfl, if_pos h]
    rfl
  · rw [if_neg e, if_neg fun z => e z.symm]
theorem sum_set : ∀ {l : List Int} {k : Nat} {v : Int}, k < l.length → (l.set k v).sum = l.sum + (v - l.getD k 0)
  | x :: r, 0, v, _ => by
    show v + r.sum = x + r.sum + (v - x)
    omega
  | x :: r, k + 1, v, h => by
    have ih := sum_set (l := r) (k := k) (v := v) (by simpa using h)
    show x + (r.set k v).sum = x + r.sum + (v - r.getD k 0)
    omega
theorem Nats.put {m : Nat} {n : Int} {ds : List PyData} (N : Nats m n ds) {k : Nat} {v : Int} (hk : k < m) (hv : 0 ≤ v) : Nats m (n + (v - asI (nth ds k))) (ds.set k (.int v)) := by
  have hl : k < ds.length := by rw [N.len]; exact hk
  refine ⟨by rw [List.length_set]; exact N.len, fun i hi => ?_, ?_⟩
  · rw [nth_set hl]
    by_cases e : i = k
    · rw [if_pos e]
      exact ⟨rfl, hv⟩
    · rw [if_neg e]
      exact N.nat i hi
  · rw [List.map_set]
    rw [sum_set (by rw [List.length_map]; exact hl), N.sum]
    congr 2
    rw [List.getD_eq_getElem?_getD, List.getElem?_map]
    show (Option.map asI ds[k]?).getD 0 = asI (nth ds k)
    rw [List.getElem?_eq_getElem hl, nth_at (List.getElem?_eq_getElem hl)] <;> rfl
end Py
namespace Py
open PySem PySem.Spec PyProof.Rows L2 Tc Px
theorem Nats.snoc {m : Nat} {n v : Int} {ds : List PyData} (N : Nats m n ds) (hv : 0 ≤ v) : Nats (m + 1) (n + v) (ds ++ [.int v]) := by
  have at_ : ∀ i, i ≤ m → nth (ds ++ [PyData.int v]) i = if i = m then .int v else nth ds i := fun i hi => by
    show (ds ++ [PyData.int v]).getD i .none = if i = m then .int v else ds.getD i .none
    rw [List.getD_eq_getElem?_getD, List.getD_eq_getElem?_getD]
    by_cases e : i = m
    · subst e
      rw [if_pos rfl, ← N.len, List.getElem?_append_right (Nat.le_refl _), Nat.sub_self] <;> rfl
    · rw [if_neg e, List.getElem?_append_left (by rw [N.len]; omega)]
  refine ⟨by rw [List.length_append, N.len] <;> rfl, fun i hi => ?_, ?_⟩
  · rw [at_ i (by omega)]
    by_cases e : i = m
    · rw [if_pos e]
      exact ⟨rfl, hv⟩
    · rw [if_neg e]
      exact N.nat i (by omega)
  · rw [List.map_append, List.sum_append, N.sum]
    show n + (v + 0) = n + v
    omega
end Py
/-! A dict that is written and read at once; the lists' comparisons. -/
namespace Py
open PySem PySem.Spec PyProof.Rows L2 Tc Px
end Py
/-! A text walked sign by sign; places of a text. -/
namespace Py
open PySem PySem.Spec PyProof.Rows L2 Tc Px
end Py
/-! A def called by its names, the last one first. -/
namespace Py
open PySem PySem.Spec PyProof.Rows L2 Tc Px
structure CallR (P : Program) (w : World) (K : PySem.W.Frag) (mg : Str → Option Value) (base : Heap) (CX : CXT)
    (k : Nat) (x : Str) (ps : List Str) (sp : Sp) (ns : List Str) : Prop where
  ex : ∃ f fd, FnG P w K mg base CX k f fd ps sp ∧ mg x = some (.ref f) ∧ PySem.W.keepIn K (.ref f) = true ∧
    ∀ (s : Shared) (us : List Value), us.length = ns.length → BindsTo s fd ⟨[], ns.zip us⟩ (ps.zip us.reverse)
theorem vals_rev : ∀ {vs : List V} {us : List Value}, Vals vs us → Vals vs.reverse us.reverse
  | _, _, .nil => .nil
  | _, _, .cons (a := a) (b := b) r h => by
    rw [List.reverse_cons, List.reverse_cons]
    exact Vals.append (vals_rev h) (.cons r .nil)
section
variable {B : Bas} {X : Cx} {Γ : List Sl} {pos : Pos} {k j n : Nat} {P : Program} {w : World} {K : PySem.W.Frag} {mg : Str → Option Value} {base : Heap}
theorem call_R {x : Str} {p : Pos} {ks : List Keyword} {a b : Expr} {n1 n2 : Option Str} {p1 p2 : Pos} {ps ns : List Str} {sp : Sp} {W : WX} (F : CallR X.prog X.w X.K X.mg X.base (L2.CX X.prog X.w) j x ps sp ns) (c : Cxt X k) (hj : j ≤ k) (hg : Gl X x) (tk : Takes X W)
    (hk : ks = [⟨n1, a, p1⟩, ⟨n2, b, p2⟩])
    (hall : (backToKw pos (keywordEach ks X.env)).all (·.1.isSome) = true)
    (hks : (backToKw pos (keywordEach ks X.env)).filterMap (·.1) = ns)
    (hpl : ((backTo pos (starEach [] X.env)).any (·.1) || (backToKw pos (keywordEach ks X.env)).any (·.1.isNone)) = false)
    (hl : ns.length = ps.length) (hdb : (x == ("__debug__" : Str)) = false)
    {σ : L2.St} {H : Hp} {Q : VK} (h : teW X a σ H fun va H1 => teW X b σ H1 fun vb H2 => sp [vb, va] H2 Q fun cl d H' => W cl d σ H') : teW X (.Call (.Name x p) [] ks pos) σ H Q := teI fun pins s I => by
  subst hk
  obtain ⟨f, fd, G, hm, kp, hb⟩ := F.ex
  have PKs : PK X [⟨n1, a, p1⟩, ⟨n2, b, p2⟩] (tCons (teW X a) (tCons (teW X b) tNil)) := pk_cons pe_W (pk_cons pe_W pk_nil)
  refine wpAny_Call_Name_kw (ld_glob I hg hm ?_ hdb)
  refine PySem.W.callWith_KW0 (h₀ := X.base) I.ok.mod.kin kp hall (thn (PKs.run pos pins s σ H (fun vs H2 => sp vs.reverse H2 Q fun cl d H' => W cl d σ H') I h) ?_) hpl
  rintro us s1 ⟨vs, H1, I1, r, q⟩
  refine ⟨I1.kIn, ?_⟩
  rw [hks]
  have l1 := G.len _ _ _ _ q
  rw [List.length_reverse] at l1
  have main := G.run X.A X.stack s1 H1 ⟨[], ns.zip us⟩ us.reverse vs.reverse Q _ (c.room.mono hj) c.gd I1.env0 (hb s1 us (by rw [← r.length, l1, hl])) (vals_rev r) q
  refine wpAny_call (codeAny_mono main ?_)
  intro res s' hq
  cases res with
  | error er => exact tk er s' (XE.of_call I1 (fun _ _ _ h => h) hq)
  | ok fl =>
    cases fl with
    | ret u => exact I1.after hq
    | next | brk | cont => exact False.elim hq
/-- a def of data, called by its names -/
theorem ge_callR {x : Str} {p : Pos} {a b : Expr} {n1 n2 : Option Str} {p1 p2 : Pos} {ps ns : List Str} {pre : List PyData → Prop} {f : List PyData → Out} {ψ : Addr → PyData → List Sl → Prop} {φ : PyData → List Sl → Prop} (hX : SameX X P w K mg base) (F : CallR P w K mg base (L2.CX P w) j x ps (spF 2 pre f) ns) (c : Cxt X k) (hj : Nat.ble j k = true) (hg : Gl X x) (ex : Exc B X ψ)
    (h : GE B X a Γ fun d1 Γ1 => GE B X b Γ1 fun d2 Γ2 => pre [d2, d1] ∧ (f [d2, d1]).to (fun d => φ d Γ2) (fun C d => ψ C d Γ2)) (hdb : (x == ("__debug__" : Str)) = false)
    (hall : (backToKw pos (keywordEach [⟨n1, a, p1⟩, ⟨n2, b, p2⟩] X.env)).all (·.1.isSome) = true)
    (hks : (backToKw pos (keywordEach [⟨n1, a, p1⟩, ⟨n2, b, p2⟩] X.env)).filterMap (·.1) = ns)
    (hpl : ((backTo pos (starEach [] X.env)).any (·.1) || (backToKw pos (keywordEach [⟨n1, a, p1⟩, ⟨n2, b, p2⟩] X.env)).any (·.1.isNone)) = false)
    (hl : ns.length = ps.length) : GE B X (.Call (.Name x p) [] [⟨n1, a, p1⟩, ⟨n2, b, p2⟩] pos) Γ φ := fun Hs σ H Q S g => by
  obtain ⟨rfl, rfl, rfl, rfl, rfl⟩ := hX
  obtain ⟨W, tk, hW⟩ := ex
  refine call_R F c (Nat.le_of_ble_eq_true hj) hg tk rfl hall hks hpl hl hdb (show teW X a σ H _ from h Hs σ H _ S fun d1 Γ1 v1 Hs1 H1 p1 s1 S1 q1 => show teW X b σ H1 _ from p1 Hs1 σ H1 _ S1 fun d2 Γ2 v2 Hs2 H2 ⟨hp, q⟩ s2 S2 q2 => ⟨Hs2, [d2, d1], S2.sub, .cons q2 (.cons (q1.mono s2) .nil), rfl, hp, fun v Hs3 H3 k1 k2 k3 => ?_⟩)
  obtain ⟨s3, S3⟩ := S2.step k3 k1 k2
  cases e : f [d2, d1] with
  | ok d =>
    rw [e] at q
    exact fun dd => g d Γ2 v Hs3 H3 q (s1.trans (s2.trans s3)) S3 dd
  | up C d =>
    rw [e] at q
    exact fun dvv dd hdd => hW C d Γ2 v Hs3 σ H3 q S3 dvv dd hdd
end
end Py
/-! The cells of a def's names, tracked for a while. -/
namespace Py
open PySem PySem.Spec PyProof.Rows L2 Tc Px
end Py
/-! A def is called with a list of function values while the cells that they read are tracked. -/
namespace Py
open PySem PySem.Spec PyProof.Rows L2 Tc Px
end Py
/-! A def of a list that it changes, and that makes lambdas: the tables of lambdas beside. -/
namespace Py
open PySem PySem.Spec PyProof.Rows L2 Tc Px
/-! ### a list of two lambdas -/
def over (F H : Hp) (l : List Addr) : Hp := fun b => if (F b).isSome || l.contains b then H b else none
theorem _root_.Px.Sx.under {B B2 : Bas} {Hs : Hp} {σ : L2.St} {H : Hp} {Γ : List Sl} (s : Same B.fr B2.fr) (g : Grow B.fr B.hs B2.hs) (t : B2.T = B.T) (S : Sx B2 Hs σ H Γ) : Sx B Hs σ H Γ := by
  have up : ∀ b, B.fr b ≠ none → B2.fr b ≠ none := fun b hb => by
    cases z : B.fr b with
    | none => exact absurd z hb
    | some u => rw [s b u z]; exact fun z => nomatch z
  refine ⟨s.trans S.fr, g.trans (S.gr.mono up), S.sub, S.len, fun i x h => ?_, S.ap, t ▸ S.tb⟩
  have q := S.sl i x h
  cases x with
  | own a ds =>
    obtain ⟨q1, q2, q3⟩ := q
    refine ⟨q1, ?_, q3⟩
    cases z : B.fr a with
    | none => rfl
    | some u => exact absurd q2 (up a (by rw [z]; exact fun z => nomatch z))
  | _ => exact q
theorem _root_.Px.Exc.under {B B2 : Bas} {X : Cx} {ψ : Addr → PyData → List Sl → Prop} (s : Same B.fr B2.fr) (g : Grow B.fr B.hs B2.hs) (t : B2.T = B.T) (h : Exc B X ψ) : Exc B2 X ψ := by
  obtain ⟨W, tk, q⟩ := h
  exact ⟨W, tk, fun C d Γ v Hs σ H p S => q C d Γ v Hs σ H p (S.under s g t)⟩
theorem _root_.Px.Real.under {B B2 : Bas} {D : Ends} {E : DE} {H0 : Hp} (s : Same B.fr B2.fr) (g : Grow B.fr B.hs B2.hs) (t : B2.T = B.T) (R : Real B D E H0) : Real B2 D E H0 :=
  ⟨fun Γ Hs σ H p k S => R.nx Γ Hs σ H p k (S.under s g t), fun d Γ v Hs σ H p k S q => R.rt d Γ v Hs σ H p k (S.under s g t) q, fun Γ Hs σ H p k S => R.bk Γ Hs σ H p k (S.under s g t), fun Γ Hs σ H p k S => R.ct Γ Hs σ H p k (S.under s g t)⟩
open LamX (LamS TabB Tabs CodeO)
end Py
/-! Instances as data: they are made once, by their __init__, and never changed. -/
namespace Py
open PySem PySem.Spec PyProof.Rows L2 Tc Px
/-! ### the fields -/
/-- the field f is given d -/
def putD (f : Str) (d : PyData) : List (PyData × PyData) → List (PyData × PyData)
  | [] => [(.str f, d)]
  | (.str g, e) :: r => if g = f then (.str g, d) :: r else (.str g, e) :: putD f d r
  | p :: r => p :: r
theorem dvn_put {H : Hp} {f : Str} {v : V} {d : PyData} (q : Dv H v d) : ∀ {gs : List (Str × V)} {fs : List (PyData × PyData)}, DvNm H gs fs → DvNm H (putF f v gs) (putD f d fs)
  | _, _, .nil => .cons q .nil
  | _, _, .cons (f := g) (gs := gs) (ds := ds) a r => by
    show DvNm H (if g = f then (g, v) :: gs else (g, _) :: putF f v gs) (if g = f then _ else _)
    by_cases e : g = f
    · rw [if_pos e, if_pos e]
      exact .cons q r
    · rw [if_neg e, if_neg e]
      exact .cons a (dvn_put q r)
theorem dvn_len {H : Hp} : ∀ {gs : List (Str × V)} {fs : List (PyData × PyData)}, DvNm H gs fs → gs.length = fs.length
  | _, _, .nil => rfl
  | _, _, .cons _ r => congrArg Nat.succ (dvn_len r)
/-- the field f -/
def fldD (f : Str) : List (PyData × PyData) → Option PyData
  | [] => none
  | (.str g, e) :: r => if g = f then some e else fldD f r
  | _ :: r => fldD f r
theorem dvn_look {H : Hp} {f : Str} {d : PyData} : ∀ {gs : List (Str × V)} {fs : List (PyData × PyData)}, DvNm H gs fs → fldD f fs = some d → ∃ v, gs.lookup f = some v ∧ Dv H v d
  | _, _, .nil, h => nomatch h
  | _, _, .cons (f := g) (v := v) (gs := gs) (d := e) (ds := ds) a r, h => by
    have h : (if g = f then some e else fldD f ds) = some d := h
    rw [List.lookup_cons]
    by_cases z : g = f
    · rw [if_pos z] at h
      cases h
      subst z
      exact ⟨v, by rw [beq_self_eq_true], a⟩
    · rw [if_neg z] at h
      obtain ⟨u, q1, q2⟩ := dvn_look r h
      exact ⟨u, by rw [show (f == g) = false from beq_eq_false_iff_ne.mpr fun y => z y.symm]; exact q1, q2⟩
theorem inst_of {H : Hp} {v : V} {C : Addr} {fs : List (PyData × PyData)} (q : Dv H v (inst C fs)) : ∃ a dx gs, v = .ref a ∧ H a = some (.ins C dx gs) ∧ DvNm H gs fs := by
  have gen : ∀ {d : PyData}, Dv H v d → d = inst C fs → ∃ a dx gs, v = .ref a ∧ H a = some (.ins C dx gs) ∧ DvNm H gs fs := by
    intro d q e
    cases q with
    | dct h r =>
      cases r with
      | nil => cases e
      | cons a r =>
        rename_i k _ _ _ _
        cases k <;> cases e
    | ins h r =>
      cases e
      exact ⟨_, _, _, rfl, h, r⟩
    | _ => cases e
  exact gen q rfl
/-- what isinstance asks of the class -/
structure KlsD (K : PySem.W.Frag) (C : Addr) : Prop where
  ic : C8.InsC K C
  cls : (PySem.W.clsIn K C).isSome = true
  ty : PySem.W.typeIn K (.ref C) = some (.type "type")
theorem mro_no {a : String} (C : Addr) (h : (fastBuiltinMro a).isSome = true) (hd : a ∈ ["NoneType", "bool", "int", "str", "list", "tuple", "dict"]) : ∃ l, fastBuiltinMro a = some l ∧ l.contains (.ref C) = false := by
  simp only [List.mem_cons, List.not_mem_nil, or_false] at hd
  rcases hd with rfl | rfl | rfl | rfl | rfl | rfl | rfl
  all_goals exact ⟨_, rfl, rfl⟩
theorem kit_no {K : PySem.W.Frag} {C : Addr} {d : PyData} (k : KlsD K C) : PySem.W.kitOne K (.type (tyD d)) (.ref C) = some false := by
  have hs : (fastBuiltinMro (tyD d)).isSome = true := by
    have := metas "int" (.head _) _ (tyD_mem d)
    exact (Bool.and_eq_true_iff.mp this).2
  obtain ⟨l, e1, e2⟩ := mro_no C hs (tyD_mem d)
  unfold PySem.W.kitOne
  rw [if_neg (by rw [show ((Value.type (tyD d)) == (Value.ref C)) = false from beq_eq_false_iff_ne.mpr fun z => nomatch z]; decide)]
  unfold PySem.W.kitCls
  show (if ((PySem.W.clsIn K C).isSome && PySem.W.typeIn K (.ref C) == some (.type "type")) = true then PySem.W.subIn K (.type (tyD d)) (.ref C) else none) = _
  rw [k.cls, k.ty]
  show (fastBuiltinMro (tyD d)).map _ = _
  rw [e1]
  show some (l.contains (Value.ref C)) = _
  rw [e2]
section
variable {B : Bas} {X : Cx} {Γ : List Sl} {pos : Pos} {φ : PyData → List Sl → Prop} {a : Expr} {C : Addr} {P : Program} {w : World} {K : PySem.W.Frag} {mg : Str → Option Value} {base : Heap}
/-- isinstance(x, C) -/
theorem ge_isC {x y : Str} {p py : Pos} (hX : SameX X P w K mg base) (my : mg y = some (.ref C)) (k : KlsD K C) (hx : x = "isinstance") (hg : Gl X x) (hm : mg x = none) (gy : Gl X y)
    (h : GE B X a Γ fun d Γ1 => (notI d = true ∧ φ (.bool false) Γ1) ∨ ∃ fs, d = inst C fs ∧ φ (.bool true) Γ1)
    (he : starEach [a, .Name y py] X.env = (false, eval a X.env) :: starEach [.Name y py] X.env) (he2 : starEach [.Name y py] X.env = (false, eval (.Name y py) X.env) :: starEach [] X.env) (hpl : (backTo pos (starEach [.Name y py] X.env)).any (·.1) = false)
    (hdb : (y == ("__debug__" : Str)) = false) : GE B X (.Call (.Name x p) [a, .Name y py] [] pos) Γ φ := by
  obtain ⟨rfl, rfl, rfl, rfl, rfl⟩ := hX
  subst hx
  refine fun Hs σ H Q S g => pe_of (pe_callB call_isi hg hm (by decide +kernel) (pa_cons pe_W (pa_cons (pe_glob (v := .ref C) gy my rfl hdb) pa_nil he2) he) (he := he) (hpl := hpl)) (show teW X a σ H _ from h Hs σ H _ S fun d Γ1 v Hs1 H1 p s S1 q => ?_)
  have q := q.mono S1.sub
  rcases p with ⟨ni, p⟩ | ⟨fs, rfl, p⟩
  · exact ⟨v, .ref C, _, _, _, rfl, .own C, q.ty ni, kit_no k, g _ Γ1 _ Hs1 H1 p s S1 (.bl _)⟩
  · obtain ⟨b, dx, gs, rfl, hb, _⟩ := inst_of q
    exact ⟨.ref b, .ref C, .ref C, _, _, rfl, .own C, .base (TyOf.ins hb k.ic.cl k.ic.ha k.ic.hn k.ic.htk k.ic.hm), k.ic.me, g _ Γ1 _ Hs1 H1 p s S1 (.bl _)⟩
/-- a property that tells a field -/
structure PropD (P : Program) (w : World) (K : PySem.W.Frag) (mg : Str → Option Value) (base : Heap) (C : Addr) (f g : Str) (j : Nat) : Prop where
  ex : ∃ (pa fa : Addr) (fd : FuncData), PropOf K C f pa fa ∧ FnOk P w K mg base (L2.CX P w) j fa fd ["self"] (getSp C g) ∧ Binds K fd ["self"] []
  cl : Cls K C
theorem passNF {X : Cx} : Passes (L2.CX X.prog X.w) X.nox (fun _ _ _ => False) := fun pins σ H s e s' I c => by
  obtain ⟨_, _, _, _, _, _, _, _, _, _, _, _, h⟩ := c
  exact h.elim
theorem ge_prop {f g : Str} {k j : Nat} (hX : SameX X P w K mg base) (D : PropD P w K mg base C f g j) (c : Cxt X k) (hj : Nat.ble (j + 1) k = true)
    (h : GE B X a Γ fun d Γ1 => ∃ fs d', d = inst C fs ∧ fldD g fs = some d' ∧ φ d' Γ1) (hab : attributeBase a f X.env (eval a X.env) = eval a X.env) : GE B X (.Attribute a f pos) Γ φ := by
  obtain ⟨rfl, rfl, rfl, rfl, rfl⟩ := hX
  obtain ⟨pa, fa, fd, hp, F, hb⟩ := D.ex
  refine fun Hs σ H Q S g0 => pe_of (pe_prop pe_W D.cl hp F (c.room.mono (Nat.le_of_ble_eq_true hj)) hb .nil passNF hab) (show teW X a σ H _ from h Hs σ H _ S fun d Γ1 v Hs1 H1 ⟨fs, d', e, l, p⟩ s S1 q => ?_)
  subst e
  obtain ⟨b, dx, gs, rfl, hb2, nm⟩ := inst_of q
  obtain ⟨u, l2, q2⟩ := dvn_look nm l
  exact ⟨b, dx, gs, rfl, S1.sub _ _ hb2, b, dx, gs, u, rfl, S1.sub _ _ hb2, l2, g0 d' Γ1 u Hs1 H1 p s S1 q2⟩
end
end Py
/-! An instance is made: its __init__ gives it its fields. -/
namespace Py
open PySem PySem.Spec PyProof.Rows L2 Tc Px
/-- what an __init__ gives: the fields, or an error -/
inductive OutI where
  | ok (fs : List (PyData × PyData))
  | up (C : Addr) (d : PyData)
def OutI.to (o : OutI) (Q : List (PyData × PyData) → Prop) (E : Addr → PyData → Prop) : Prop := match o with
  | .ok fs => Q fs
  | .up C d => E C d
def spI (C : Addr) (n : Nat) (pre : List PyData → Prop) (f : List PyData → OutI) : Sp := fun vs H Q E => ∃ (Hs : Hp) (a dx : Addr) (ws : List V) (ds : List PyData), vs = .ref a :: ws ∧ Same Hs H ∧ Hs a = none ∧ H a = some (.ins C dx []) ∧ DvAll Hs ws ds ∧ ds.length = n ∧ pre ds ∧
  ∀ v Hs' H' gs', (∀ b u, H b = some u → b ≠ a → H' b = some u) → Same Hs' H' → Grow H Hs Hs' → H' a = some (.ins C dx gs') → (f ds).to (fun fs => DvNm Hs' gs' fs → v = .non → Q .non H') (fun E' d => Dv Hs' v d → upE E' v H' E)
/-- the statements of an __init__, its fields told -/
def GI0 (F h0 : Hp) (T : List (Addr × Str)) (X : Cx) (a C dx : Addr) (sts : List Stmt) (fs : List (PyData × PyData)) (Γ : List Sl) (fin : List (PyData × PyData) → Prop) : Prop :=
  ∀ (hs Hs : Hp) (gs : List (Str × V)) (σ : L2.St) (H : Hp) (D : Ends), F a = none → hs a = none → Grow F h0 hs → DvNm Hs gs fs → Sx ⟨upd F a (.ins C dx gs), hs, T⟩ Hs σ H Γ →
    (∀ fs' gs' Γ' hs' Hs' σ' H', fin fs' → Grow F h0 hs' → hs' a = none → Sx ⟨upd F a (.ins C dx gs'), hs', T⟩ Hs' σ' H' Γ' → DvNm Hs' gs' fs' → D.nx σ' H') → tssW X sts D σ H
section
variable {F h0 : Hp} {T : List (Addr × Str)} {X : Cx} {a C dx : Addr} {st : Stmt} {sts : List Stmt} {fs : List (PyData × PyData)} {Γ : List Sl} {fin : List (PyData × PyData) → Prop}
theorem gi_nil (h : fin fs) : GI0 F h0 T X a C dx [] fs Γ fin := fun hs Hs gs σ H D fa ha g nm S k => pss_of pss_nil (show D.nx σ H from k fs gs Γ hs Hs σ H h g ha S nm)
theorem gi_st {ψ : Addr → PyData → List Sl → Prop} (ex : ∀ gs hs, Grow F h0 hs → hs a = none → Exc ⟨upd F a (.ins C dx gs), hs, T⟩ X ψ) (h : ∀ gs hs, Exc ⟨upd F a (.ins C dx gs), hs, T⟩ X ψ → G1 ⟨upd F a (.ins C dx gs), hs, T⟩ X st Γ { nx := fun Γ' => GI0 F h0 T X a C dx sts fs Γ' fin, rt := fun _ _ => False }) : GI0 F h0 T X a C dx (st :: sts) fs Γ fin :=
  fun hs Hs gs σ H D fa ha g nm S k => pss_of (pss_cons (u := tssW X sts) ps_W pss_W) (show tsW X st { D with nx := tssW X sts D } σ H from
    h gs hs (ex gs hs g ha) { D with nx := tssW X sts D } Hs σ H ⟨fun Γ' Hs' σ' H' p s' S' => p hs Hs' gs σ' H' D fa ha g (nm.mono s') S' k, fun _ _ _ _ _ _ z => z.elim, fun _ _ _ _ z => z.elim, fun _ _ _ _ z => z.elim⟩ S)
theorem gi_fld {x f : Str} {i : Nat} {px ap pos : Pos} {e : Expr} (cl : Cls X.K C) (no : NoAttr X.K C f) (hl : fs.length < 1000) (hN : idxS X.N x = some i) (hv : Sees X.env.scope x = true) (hΓ : Γ[i]? = some (.v (.ref a)))
    (h : ∀ gs hs, GE ⟨upd F a (.ins C dx gs), hs, T⟩ X e Γ fun d Γ1 => Γ1 = Γ ∧ GI0 F h0 T X a C dx sts (putD f d fs) Γ fin)
    (hd : (x == ("__debug__" : Str)) = false) (hcd : (x == ("__classdict__" : Str)) = false) (hs1 : swapsWith e (some (.Attribute (.Name x px) f ap)) pos.line X.env = pure false) : GI0 F h0 T X a C dx (.Assign [.Attribute (.Name x px) f ap] e pos :: sts) fs Γ fin := by
  intro hs Hs gs σ H D fa ha g nm S k
  refine pss_of (pss_cons (u := tssW X sts) ps_W pss_W) (show tsW X _ { D with nx := tssW X sts D } σ H from ps_of (ps_fld (pe_var (idxS_ok hN) (sees_ok hv) hd hcd) pe_W hs1) ?_)
  refine show teW X e σ H _ from h gs hs Hs σ H _ S fun d Γ1 v Hs1 H1 ⟨eΓ, p⟩ s1 S1 q => ?_
  subst eΓ
  obtain ⟨S2, hb, nb, ab⟩ := S1.loose g fa ha
  refine ⟨.ref a, S.val hΓ, a, C, dx, gs, rfl, hb, cl, no, by rw [dvn_len nm]; exact hl, ?_⟩
  have S3 := S2.beside (o := .ins C dx (putF f v gs)) hb rfl nb fa ab
  have S4 := S3.hold upd_same nb fa ab
  exact p Hs1 Hs1 (putF f v gs) σ _ D fa nb S2.gr (dvn_put q (nm.mono s1)) S4 k
end
section
variable {P : Program} {w : World} {K : PySem.W.Frag} {mg : Str → Option Value} {base : Heap}
theorem fn_init {x qual : Str} {st : Stmt} {f C : Addr} {fd : FuncData} {N ps : List Str} {k n : Nat} (F : Fun K x qual st f fd) (S : FnScope N ps (defScope st)) (sm : ∃ o, K.lookup sysModules = some o) (hn : ps.length = n + 1) (pre : List PyData → Prop) (fI : List PyData → OutI)
    (body : ∀ (cdv : Value) (A : Around) (outer : List Env) (s : Shared) (H : Hp) (E : XK) (G Hs : Hp) (a dx : Addr) (ds : List PyData), ds.length = n → pre ds →
      Bod (cxOf (L2.CX P w) P w K mg base N qual (defScope st) f cdv A outer s H E) k → (∀ gs hs, Grow G Hs hs → hs a = none → Exc ⟨upd G a (.ins C dx gs), hs, []⟩ (cxOf (L2.CX P w) P w K mg base N qual (defScope st) f cdv A outer s H E) (fun C' d _ => fI ds = .up C' d)) →
      GI0 G Hs [] (cxOf (L2.CX P w) P w K mg base N qual (defScope st) f cdv A outer s H E) a C dx (defBody st) [] (slots0 N (.v (.ref a) :: ds.map .d)) fun fs => fI ds = .ok fs) :
    FnG P w K mg base (L2.CX P w) (k + 1) f fd ps (spI C n pre fI) := by
  refine Fun.okG F S (fun vs H Q E h => ?_) (fun cdv A outer s H vs Q E hr hgd h => ?_)
  · obtain ⟨Hs, a, dx, ws, ds, rfl, _, _, _, d, l, _⟩ := h
    rw [List.length_cons, d.len, l, hn]
  · obtain ⟨Hs, a, dx, ws, ds, rfl, sub, na, ha, dv, l, hp, q⟩ := h
    have tk := takes_of (X := cxOf (L2.CX P w) P w K mg base N qual (defScope st) f cdv A outer s H E) (E := E) rfl rfl rfl rfl
    -- all but the instance
    generalize hG : (fun b => if b = a then none else H b : Hp) = G
    have Ga : G a = none := by rw [← hG]; exact if_pos rfl
    have Gb : ∀ b, b ≠ a → G b = H b := fun b hb => by rw [← hG]; exact if_neg hb
    have up : upd G a (.ins C dx []) = H := by
      funext b
      by_cases z : b = a
      · rw [z, upd_same, ha]
      · rw [upd_ne z, Gb b z]
    have S0 : Sx ⟨upd G a (.ins C dx []), Hs, []⟩ Hs (L2.start N (.ref a :: ws)) H (slots0 N (.v (.ref a) :: ds.map .d)) := by
      refine ⟨by show Same (upd G a _) H; rw [up]; exact Same.refl _, Grow.refl _ _, sub, ?_, fun i t h => ?_, fun i j b es c fs h1 h2 n => ?_, tabs_nil⟩
      · show ((V.ref a :: ws).map some ++ List.replicate _ none).length = ((Sl.v (.ref a) :: ds.map Sl.d) ++ _).length
        simp only [List.length_append, List.length_map, List.length_replicate, List.length_cons, dv.len]
      · rcases slots_get h with rfl | h
        · exact trivial
        · cases i with
          | zero =>
            have e : t = .v (.ref a) := (Option.some.inj h).symm
            subst e
            exact start_get rfl
          | succ i =>
            obtain ⟨d, e, rfl⟩ := map_get (show (ds.map Sl.d)[i]? = some t from h)
            obtain ⟨v, ev, q⟩ := dvs_get dv e
            exact ⟨v, start_get (show (V.ref a :: ws)[i + 1]? = some v from ev), q⟩
      · rcases slots_get h1 with z | z
        · cases z
        · cases i with
          | succ i =>
            obtain ⟨d, _, z⟩ := map_get (show (ds.map Sl.d)[i]? = _ from z)
            cases z
          | zero => cases z
    have gG : ∀ {hs' : Hp}, Grow G Hs hs' → hs' a = none → Grow H Hs hs' := fun g n => ⟨g.same, fun b nb fb => by
      by_cases z : b = a
      · rw [z]
        exact n
      · exact g.off b nb (by rw [Gb b z]; exact fb)⟩
    refine ⟨_, pss_W, body cdv A outer s H E G Hs a dx ds l hp ⟨⟨hr, hgd, sm⟩, S.nd, rfl, PassesOwn.leaving⟩ (fun gs hs g n => ⟨_, tk, fun C' d Γ v Hs' σ' H' e T dvv dd hdd => ?_⟩) Hs Hs [] _ H _ Ga na (Grow.refl _ _) .nil S0 fun fs' gs' Γ' hs' Hs' σ' H' e g n T nm => ?_⟩
    · obtain ⟨T2, hb, nb, ab⟩ := T.loose g Ga n
      have z := q v Hs' H' gs (fun b u eb nb' => T2.fr b u (by show G b = some u; rw [Gb b nb']; exact eb)) T2.sub (gG T2.gr nb) hb
      rw [show fI ds = .up C' d from e] at z
      exact z dvv dd hdd
    · obtain ⟨T2, hb, nb, ab⟩ := T.loose g Ga n
      have z := q .non Hs' H' gs' (fun b u eb nb' => T2.fr b u (by show G b = some u; rw [Gb b nb']; exact eb)) T2.sub (gG T2.gr nb) hb
      rw [show fI ds = .ok fs' from e] at z
      exact z nm rfl
end
end Py
/-! C(..): an instance is made. -/
namespace Py
open PySem PySem.Spec PyProof.Rows L2 Tc Px
theorem make_guards {A : Around} {C : Addr} {us : List Value} {kw : List (Str × Value)} (h : A.guards = some []) : (A.under (.builtin "type.__call__" ⟨.ref C :: us, kw⟩)).guards = some [] := by
  have e : (A.under (.builtin "type.__call__" ⟨.ref C :: us, kw⟩)).guards = PySem.pushGuards (Code.guards (.builtin "type.__call__" ⟨.ref C :: us, kw⟩)) A.guards := rfl
  rw [e, h, show Code.guards (.builtin "type.__call__" ⟨.ref C :: us, kw⟩) = [] from by simp [Code.guards, Code.isGuard, show ¬ "type.__call__" ∈ guardIds from by decide +kernel]]
  rfl
section
variable {X : Cx} {k : Nat} {C f : Addr} {fd : FuncData} {ps : List Str} {sp : Sp} {E : XK} {σ : L2.St} {H : Hp} {s : Shared} {Q : VK} {pins : Pins}
theorem run_makeG {us : List Value} {vs : List V} (M : Mk X.K C f) (F : FnG X.prog X.w X.K X.mg X.base (L2.CX X.prog X.w) k f fd ps sp) (hr : Room (k + 1) X.A) (hgd : X.A.guards = some []) (hb : Binds X.K fd ps [])
    (hx : PassesAt (L2.CX X.prog X.w) X σ E) (I : Inv X pins σ H s) (r : Vals vs us)
    (h : ∀ x dx, H x = none → H dx = none → dx ≠ x → sp (.ref x :: vs) (upd (upd H dx (.own x)) x (.ins C dx [])) (fun v H2 => v = .non ∧ Q (.ref x) H2) E) :
    wpAny (model X.prog X.w) X.A (call (.ref C) us) (EP X pins σ Q) X.xe s := by
  have hq := h (s.heap.objs.size + 1) s.heap.objs.size (I.hok.fresh (Nat.le_succ _)) (I.hok.fresh (Nat.le_refl _)) (Nat.ne_of_lt (Nat.lt_succ_self _))
  have I2 := Inv.made (C := C) I
  have r2 : Vals (V.ref (s.heap.objs.size + 1) :: vs) (Value.ref (s.heap.objs.size + 1) :: us) := .cons rfl r
  have hl : (Value.ref (s.heap.objs.size + 1) :: us ++ []).length = ps.length := by
    rw [List.append_nil]
    have e := r2.length
    rw [F.len _ _ _ _ hq] at e
    exact e.symm
  have bd := hb _ (Value.ref (s.heap.objs.size + 1) :: us) I2.kIn hl
  rw [List.append_nil] at bd
  refine wpAny_call (make_map (f := f) I.kIn M.makes M.init (beq_iff_eq.mp M.fn) (codeAny_mono (F.run _ X.stack _ _ ⟨Value.ref (s.heap.objs.size + 1) :: us, []⟩ (Value.ref (s.heap.objs.size + 1) :: us) _ _ E (hr.make C us []) (make_guards hgd)
    (I2.env0.make C us []) bd r2 hq) fun r s' hq' => ?_))
  cases r with
  | error e => exact hx pins _ _ e s' I2 hq'
  | ok fl =>
    cases fl with
    | ret u =>
      obtain ⟨v, H', I3, rv, ev, q3⟩ := I2.after hq'
      subst ev
      exact ⟨rv, ⟨V.ref (s.heap.objs.size + 1), H', I3, rfl, q3⟩⟩
    | next => exact False.elim hq'
    | brk => exact False.elim hq'
    | cont => exact False.elim hq'
end
/-- a class whose instances are made by its __init__ -/
structure MakeD (P : Program) (w : World) (K : PySem.W.Frag) (mg : Str → Option Value) (base : Heap) (j : Nat) (x : Str) (C : Addr) (n : Nat) (ps : List Str) (pre : List PyData → Prop) (fI : List PyData → OutI) : Prop where
  ex : ∃ (f : Addr) (fd : FuncData), Mk K C f ∧ FnG P w K mg base (L2.CX P w) j f fd ps (spI C n pre fI) ∧ Binds K fd ps []
  gm : mg x = some (.ref C)
section
variable {B : Bas} {X : Cx} {Γ : List Sl} {pos : Pos} {k j n : Nat} {C : Addr} {P : Program} {w : World} {K : PySem.W.Frag} {mg : Str → Option Value} {base : Heap}
theorem ge_make {x : Str} {p : Pos} {e : Expr} {es : List Expr} {ps : List Str} {pre : List PyData → Prop} {fI : List PyData → OutI} {ψ : Addr → PyData → List Sl → Prop} {φ : PyData → List Sl → Prop} (hX : SameX X P w K mg base) (M : MakeD P w K mg base j x C n ps pre fI) (c : Cxt X k) (hj : Nat.ble (j + 1) k = true) (hg : Gl X x) (ex : Exc B X ψ)
    (h : GA B X (e :: es) Γ fun ds Γ1 => ds.length = n ∧ pre ds ∧ (fI ds).to (fun fs => φ (inst C fs) Γ1) (fun C' d => ψ C' d Γ1)) (hdb : (x == ("__debug__" : Str)) = false)
    (he : starEach (e :: es) X.env = (false, eval e X.env) :: starEach es X.env) (hpl : (backTo pos (starEach es X.env)).any (·.1) = false) : GE B X (.Call (.Name x p) (e :: es) [] pos) Γ φ := by
  obtain ⟨rfl, rfl, rfl, rfl, rfl⟩ := hX
  obtain ⟨f, fd, Mm, F, hb⟩ := M.ex
  intro Hs σ H Q S g
  obtain ⟨W, tk, hW⟩ := ex
  refine teI fun pins s I => ?_
  refine wpAny_Call_Name_kw (ld_glob I hg M.gm ?_ hdb)
  refine PySem.W.callWith_K (h₀ := X.base) I.ok.mod.kin Mm.kp (thn (taE (h Hs σ H _ S fun ds Γ1 vs Hs1 H1 p s1 S1 dv => ?_ : taW X (e :: es) σ H fun vs H1 => ∀ x dx, H1 x = none → H1 dx = none → dx ≠ x → spI C n pre fI (.ref x :: vs) (upd (upd H1 dx (.own x)) x (.ins C dx [])) (fun v H2 => v = .non ∧ Q (.ref x) H2) fun cl d H' => W cl d σ H') pos pins s I) ?_) he hpl
  · obtain ⟨l, hp, q⟩ := p
    intro y dx hy hd ne
    have ny : ∀ b u, H1 b = some u → b ≠ y := fun b u e z => by rw [z, hy] at e; cases e
    have nd : ∀ b u, H1 b = some u → b ≠ dx := fun b u e z => by rw [z, hd] at e; cases e
    have k1 : Same H1 (upd (upd H1 dx (.own y)) y (.ins C dx [])) := fun b u e => by rw [upd_ne (ny b u e), upd_ne (nd b u e)]; exact e
    refine ⟨Hs1, y, dx, vs, ds, rfl, S1.sub.trans k1, S1.sub.free hy, upd_same, dv, l, hp, fun v Hs2 H2 gs r1 r2 r3 r4 => ?_⟩
    have k2 : Same H1 H2 := fun b u e => r1 b u (k1 b u e) (ny b u e)
    have ny2 : Hs2 y = none := r3.off y (S1.sub.free hy) (by rw [upd_same]; exact fun z => nomatch z)
    have g2 : Grow H1 Hs1 Hs2 := ⟨r3.same, fun b n f => by
      cases z : H1 b with
      | none => exact absurd z f
      | some u => exact r3.off b n (by rw [k1 b u z]; exact fun z => nomatch z)⟩
    cases e : fI ds with
    | ok fs =>
      rw [e] at q
      intro nm hv
      refine ⟨rfl, ?_⟩
      have g3 : Grow H1 Hs1 (upd Hs2 y (.ins C dx gs)) := g2.trans ⟨Same.new ny2, fun b n f => by
        cases z : H1 b with
        | none => exact absurd z f
        | some u => rw [upd_ne (ny b u z)]; exact n⟩
      have u3 : Same (upd Hs2 y (.ins C dx gs)) H2 := fun b u e => by
        by_cases z : b = y
        · rw [z, upd_same] at e
          rw [z, r4]
          exact e
        · rw [upd_ne z] at e
          exact r2 b u e
      obtain ⟨s2, S2⟩ := S1.step g3 k2 u3
      exact g _ Γ1 (.ref y) _ H2 q (s1.trans s2) S2 (.ins upd_same (nm.mono (Same.new ny2)))
    | up C' d =>
      rw [e] at q
      obtain ⟨s2, S2⟩ := S1.step g2 k2 r2
      exact fun dvv dd hdd => hW C' d Γ1 v Hs2 σ H2 q S2 dvv dd hdd
  · rintro us s1 ⟨vs, H1, I1, r, q⟩
    exact ⟨I1.kIn, run_makeG Mm F (c.room.mono (Nat.le_of_ble_eq_true hj)) c.gd hb (fun pins H s e s' I c => tk e s' (XE.of_call I (fun _ _ _ h => h) c)) I1 r q⟩
end
end Py
/-! Stars in displays, xs[::-1], a while that isn't entered. -/
namespace Py
open PySem PySem.Spec PyProof.Rows L2 Tc Px
section
variable {B : Bas} {X : Cx} {Γ : List Sl} {pos : Pos} {E : DE}
theorem dvs_app {H : Hp} {vs ws : List V} {ds es : List PyData} (a : DvAll H vs ds) (b : DvAll H ws es) : DvAll H (vs ++ ws) (ds ++ es) := dvs_append a b
theorem ga_star (kq : Bool) {e : Expr} {p : Pos} {es : List Expr} {φ : List PyData → List Sl → Prop} (h : GQ B X kq e Γ fun ds Γ1 => GA B X es Γ1 fun rs Γ2 => φ (ds ++ rs) Γ2) (hs : starEach (.Starred e p :: es) X.env = (true, eval e X.env) :: starEach es X.env) : GA B X (.Starred e p :: es) Γ φ := fun Hs σ H Q S g =>
  pa_of (StX.pa_star pe_W pa_W hs) (h Hs σ H _ S fun ds Γ1 a vs Hs1 H1 p s1 S1 hq dv => ⟨a, vs, rfl, by cases kq with | true => exact .inr hq | false => exact .inl hq, p Hs1 σ H1 _ S1 fun rs Γ2 ws Hs2 H2 q s2 S2 dvs => g (ds ++ rs) Γ2 (vs ++ ws) Hs2 H2 q (s1.trans s2) S2 (dvs_app (dv.mono s2) dvs)⟩)
end
end Py
/-! enumerate of a tuple. -/
namespace PySem
open Sem (wp)
open AutoSeq1 (wpAny_loadPart')
theorem meets_enumerate_newTp (l : Addr) (items : Array Value) (n : Nat) (dct : Option Addr) (sl : Array (Option Value)) :
    Meets (Builtin.«enumerate.__new__» ⟨[.type "enumerate", .ref l], []⟩) (fun _ R s => s.heap.get? l = some { cls := .type "tuple", dict := dct, data := .seq items n, slots := sl } ∧
      R (.ok (.ret (.ref (s.heap.push { cls := .type "tuple_iterator", data := .fields #[.ref l, .int 0 0] }).objs.size)))
        { s with heap := (s.heap.push { cls := .type "tuple_iterator", data := .fields #[.ref l, .int 0 0] }).push { cls := .type "enumerate", data := .fields #[.none, .bool false, .ref s.heap.objs.size, rawInt 0, .none, .none] } }) :=
  .of_wp fun prog w A R s h => by
    obtain ⟨hp, g, d, tk, os⟩ := s; obtain ⟨hl, h⟩ := h
    have hsub := sub_enumerate
    have hL : Heap.IsTuple (Shared.heap ⟨hp, g, d, tk, os⟩) l items := ⟨_, hl, rfl, n, rfl⟩
    wp_walk using wpAny_loadPart' hl
    refine wpAny_stack_any fun st => wpAny_pure ?_
    split
    · rename_i c _ _ _ _ _
      cases (c == Value.type "enumerate")
      · wp_walk using wpAny_loadPart' hl, wpAny_pyIter_tuple hL
        exact ⟨_, rfl, h⟩
      · wp_walk using wpAny_loadPart' hl, wpAny_pyIter_tuple hL
        exact ⟨_, rfl, h⟩
    · wp_walk using wpAny_loadPart' hl, wpAny_pyIter_tuple hL
      exact ⟨_, rfl, h⟩
section
variable {prog : Program} {w : World} {A : Around} {E : Value → Shared → Prop} {s : Shared}
theorem call_enumerate_tup {l : Addr} {items : Array Value} {Q : Value → Shared → Prop} (hL : s.heap.IsTuple l items)
    (h : ∀ h', IsEnum h' (s.heap.objs.size + 1) s.heap.objs.size 0 .none → h'.IsTupleIter s.heap.objs.size l 0 → h'.objs.size = s.heap.objs.size + 2 →
      (∀ b o, s.heap.get? b = some o → h'.get? b = some o) → Q (.ref (s.heap.objs.size + 1)) { s with heap := h' }) :
    wpAny (model prog w) A (call (.type "enumerate") [.ref l]) Q E s := by
  obtain ⟨⟨c, dct, dt, sl⟩, hl, hc, n, hd⟩ := hL
  replace hc : c = .type "tuple" := hc
  replace hd : dt = .seq items n := hd
  subst hc hd
  refine callType_new F.called_enumerate (by decide) (F.typeCall_enumerate_1 _) (F.newCall_enumerate_1 _) (fun obj => F.args_object_init_2 obj _) F.entry_enumerate_new
    (meets_enumerate_newTp l items n dct sl) ⟨hl, ?_⟩
  have hz : (s.heap.push { cls := .type "tuple_iterator", data := .fields #[.ref l, .int 0 0] }).objs.size = s.heap.objs.size + 1 := Heap.size_push ..
  show _ ∧ _
  rw [hz]
  have he : IsEnum ((s.heap.push { cls := .type "tuple_iterator", data := .fields #[.ref l, .int 0 0] }).push
      { cls := .type "enumerate", data := .fields #[.none, .bool false, .ref s.heap.objs.size, rawInt 0, .none, .none] }) (s.heap.objs.size + 1) s.heap.objs.size 0 .none := by
    have := Heap.get?_push_size (s.heap.push { cls := .type "tuple_iterator", data := .fields #[.ref l, .int 0 0] })
      (o := { cls := .type "enumerate", data := .fields #[.none, .bool false, .ref s.heap.objs.size, rawInt 0, .none, .none] }) rfl
    rw [hz] at this; exact this
  refine ⟨⟨_, he, rfl⟩, h _ he ⟨_, Heap.get?_push_of_some _ (Heap.get?_push_size _ rfl), rfl, rfl⟩ (by rw [Heap.size_push, hz]) fun b o x => Heap.get?_push_of_some _ (Heap.get?_push_of_some _ x)⟩
end
end PySem
namespace Tz
open PySem PySem.Spec PyProof.Rows L2
theorem draws_tup {prog : Program} {w : World} {A : Around} {it a : Addr} {xs : Array Value} (hh : A.handled = none) (ne : a ≠ it) :
    Draws prog w A it [it, a] xs.size (fun i x => xs[i]? = some x) (fun i h => Run2 false h it a i ∧ Seq2 false h a xs) where
  live := fun i h st => by
    obtain ⟨o, _, e, _⟩ := st.1.obj
    exact ⟨o, e⟩
  frame := fun i h h' st k => ⟨st.1.on fun o e => k it (by simp) o e, by
    obtain ⟨o, e, r⟩ := (st.2 : h.IsTuple a xs)
    exact ⟨o, k a (by simp) o e, r⟩⟩
  item := fun i s Q E hi st hQ => by
    obtain ⟨r, q⟩ := st
    have e : xs[i]? = some xs[i] := Array.getElem?_eq_getElem hi
    exact step_one r q e fun h' r' sb => hQ xs[i] h' s.toks e ⟨r', q.but sb.extBut ne⟩ sb
  done := fun s Q E st hE => by
    obtain ⟨r, q⟩ := st
    exact step_end hh r q (by simp) hE
/-- the tuple at a as it stands at each turn, each item in a new pair -/
def Itet (K : PySem.W.Frag) (a : Addr) : It :=
  ⟨fun i H => ∃ (xs : List V) (x : V), SqT K H a xs ∧ xs[i]? = some x, fun i H v H' => ∃ T x, v = .ref T ∧ H T = none ∧ H' = upd H T (.tup [.int (i : Nat), x]) ∧ ∀ xs, SqT K H a xs → xs[i]? = some x, fun i H => ∃ xs : List V, SqT K H a xs ∧ xs.length = i⟩
theorem turn_enumT {P : Program} {w : World} {K : PySem.W.Frag} {elts : List Expr} {kk : Nat} {tpos : Pos} (a e it : Addr) :
    Turn P w K (.Tuple elts kk tpos) (Itet K a) [e, it] e (fun i h => (∃ old, IsEnum h e it ((i : Nat) : Int) old) ∧ h.IsTupleIter it a i ∧ e ≠ it) where
  mem := by simp
  obj := fun i h st b hb => by
    obtain ⟨⟨old, he⟩, ⟨o, ho, hc, hd⟩, _⟩ := st
    have e' : b = e ∨ b = it := by simpa using hb
    rcases e' with z | z
    · rw [z]; exact ⟨_, he, fun v q => nomatch q⟩
    · rw [z]; exact ⟨o, ho, fun v q => by rw [hd] at q; cases q⟩
  keep := fun i h h' st k => let ⟨⟨old, he⟩, hi, hne⟩ := st; ⟨⟨old, k e (by simp) _ he⟩, hi.at fun o q => k it (by simp) o q, hne⟩
  item := by
    intro X hP hw hK hc i pins s σ H E I hf st hg
    subst hP hw hK
    obtain ⟨⟨old, he⟩, hit, hne⟩ := st
    obtain ⟨xs, x, hq, hx⟩ := hg
    obtain ⟨its, rv, p, hz⟩ := I.tuple hq
    obtain ⟨u, hu, ru⟩ := rv.get hx
    have hel : e < s.heap.objs.size := Heap.lt_size he
    have hil : it < s.heap.objs.size := by obtain ⟨_, q, _⟩ := hit; exact Heap.lt_size q
    have p : s.heap.IsTuple a its.toArray := p
    have nea : e ≠ a := fun z => by
      obtain ⟨o, e1, _, n, e3⟩ := p
      rw [← z, he] at e1
      cases e1
      cases e3
    have nit : a ≠ it := fun z => by
      obtain ⟨o, e1, _, n, e3⟩ := p
      obtain ⟨o2, e4, _, e5⟩ := hit
      rw [z, e4] at e1
      cases e1
      rw [e3] at e5
      cases e5
    have hd : X.A.in1.handled = none := I.ok.hd hc
    have D := draws_tup (prog := X.prog) (w := X.w) (xs := its.toArray) hd nit
    refine wpAny_pyNext_enum_itemD D he ⟨hit, p⟩ (i := i) (by
      have := (List.getElem?_eq_some_iff.mp hu).1
      simpa using this) hne (by simp [hne, nea]) fun u2 h' tk hu2 ho st' hT hsz hk => ?_
    have eu : u2 = u := by
      have : its[i]? = some u2 := by simpa using hu2
      rw [hu] at this
      exact (Option.some.inj this).symm
    subst eu
    obtain ⟨hit', p'⟩ := st'
    have hit' : h'.IsTupleIter it a (i + 1) := hit'
    refine ⟨_, rfl, wpAny_letOwnedTupleGo_enum (s := { s with heap := h', toks := tk + 1 }) ho fun h'' he' sb => ?_⟩
    have hT2 : h''.get? s.heap.objs.size = some { cls := .type "tuple", data := .seq #[.int i tk, u2] } := (sb.2 _ (Nat.ne_of_gt hel)).trans hT
    have new : ObjOk X.prog X.w (upd H s.heap.objs.size (.tup [.int (i : Nat), x])) h'' s.heap.objs.size (.tup [.int (i : Nat), x]) :=
      ⟨by show 2 ≤ sizeLine; decide, [.int i tk, u2], .cons ⟨_, rfl⟩ (.cons ru .nil), ⟨_, hT2, rfl, _, rfl⟩⟩
    have I1 : Inv X pins σ (upd H s.heap.objs.size (.tup [.int (i : Nat), x])) { s with heap := h'', toks := tk + 1 } :=
      I.turnedNew (ch := [e, it]) (fun b ob hb q => (sb.2 b (fun z => hb (by simp [z]))).trans (hk b ob (fun z => hb (by simp [z])) (fun z => hb (by simp [z])) q)) hf (Nat.le_refl _) new
    refine ⟨.ref s.heap.objs.size, _, I1, rfl, ⟨_, x, rfl, I.hok.fresh (Nat.le_refl _), rfl, fun ys hy => by rw [I.tuple_inj hy hq]; exact hx⟩, ⟨⟨u2, ?_⟩, hit'.at fun o q => (sb.2 it (Ne.symm hne)).trans q, hne⟩, fun b hb => ?_⟩
    · have e1 : ((i + 1 : Nat) : Int) = (i : Int) + 1 := by omega
      rw [e1]; exact he'
    · have hb' : b < s.heap.objs.size := by
        have e' : b = e ∨ b = it := by simpa using hb
        rcases e' with z | z
        · rw [z]; exact hel
        · rw [z]; exact hil
      rw [upd_ne (Nat.ne_of_lt hb')]
      exact (hf b hb).1
  done := by
    intro X hP hw hK hc i pins s σ H E I hf st hg
    subst hP hw hK
    obtain ⟨⟨old, he⟩, hit, hne⟩ := st
    obtain ⟨xs, hq, hx⟩ := hg
    obtain ⟨its, rv, p, hz⟩ := I.tuple hq
    obtain ⟨f0, f1, f2, f3, f4, f5⟩ := hf it (by simp)
    have hl := rv.length
    have p : s.heap.IsTuple a its.toArray := p
    have nit : a ≠ it := fun z => by
      obtain ⟨o, e1, _, n, e3⟩ := p
      obtain ⟨o2, e4, _, e5⟩ := hit
      rw [z, e4] at e1
      cases e1
      rw [e3] at e5
      cases e5
    have hd : X.A.in1.handled = none := I.ok.hd hc
    have D := draws_tup (prog := X.prog) (w := X.w) (xs := its.toArray) hd nit
    have en : i = its.toArray.size := by rw [List.size_toArray]; omega
    exact wpAny_pyNext_enum_endD D he (by rw [← en]; exact ⟨hit, p⟩) fun h' eb => ⟨rfl, I.turned (t' := s.toks) (fun b o hb q => eb b o hb q) f0 f1 f3 f4 f5⟩
  self := fun A i s Q E st h => let ⟨⟨_, he⟩, _⟩ := st; wpAny_pyIter_enum he h
def iEnumT (K : PySem.W.Frag) (ta : TA) : TI := fun σ H R => ta σ H fun vs H1 => ∃ a xs, vs = [.ref a] ∧ SqT K H1 a xs ∧ R (Itet K a) H1
theorem pi_enumT {X : Cx} {e : Expr} {ta : TA} {p pos tpos : Pos} {elts : List Expr} {kk : Nat} (hg : Gl X "enumerate") (hm : X.mg "enumerate" = none) (ha : PA X [e] ta) (hs : starEach [e] X.env = [(false, eval e X.env)]) :
    PI X (.Tuple elts kk tpos) (.Call (.Name "enumerate" p) [e] [] pos) (iEnumT X.K ta) := by
  refine ⟨fun pins s σ H R I h => ?_⟩
  refine Call_ (ld_blt I hg hm boot_enumerate (PyProof.Rows.callWith_type1 (thn (ha.run pos pins s σ H _ I h) fun us s1 ⟨vs, H1, I1, r1, q1⟩ => ?_) hs rfl))
  obtain ⟨a, xs, ex, hq, q⟩ := q1
  subst ex
  cases r1 with
  | cons r rr =>
    cases rr
    cases r
    obtain ⟨its, rv, p', hz⟩ := I1.tuple hq
    refine call_enumerate_tup (show s1.heap.IsTuple a its.toArray from p') fun h' he hit hsz hk => wpAny_pyIter_enum he ?_
    have I2 : Inv X pins σ H1 { s1 with heap := h' } := I1.kept (t' := s1.toks) hk
    refine ⟨s1.heap.objs.size + 1, [s1.heap.objs.size + 1, s1.heap.objs.size], _, _, H1, rfl, I2, turn_enumT a (s1.heap.objs.size + 1) s1.heap.objs.size, ⟨⟨.none, he⟩, hit, Nat.succ_ne_self _⟩, fun b hb => ?_, q⟩
    have e' : b = s1.heap.objs.size + 1 ∨ b = s1.heap.objs.size := by simpa using hb
    have hle : s1.heap.objs.size ≤ b := by
      rcases e' with z | z
      · rw [z]; exact Nat.le_add_right _ _
      · rw [z]; exact Nat.le_refl _
    exact I1.fpOk hle (I1.hok.fresh hle)
end Tz
/-! min(x) of a tuple of ints. -/
namespace Tc
open PySem PySem.Spec PyProof.Rows L2
end Tc
/-! enumerate of a tuple. -/
namespace Py
open PySem PySem.Spec PyProof.Rows L2 Tc Px Tz
section
variable {B : Bas} {X : Cx} {Γ : List Sl} {pos : Pos}
theorem its_enumT {K : PySem.W.Frag} {keep : List Sl → Prop} {Hs : Hp} {a : Addr} {ds : List PyData} (p : Pers K keep false Hs a ds) :
    Its keep Hs (Tz.Itet K a) ds.length (fun i => .tuple [.int i, nth ds i]) := by
  refine ⟨fun H => ∃ us, SqX false K H a us ∧ us.length = ds.length, (Tz.Itet K a).yld, ⟨?_, ?_, fun _ _ _ _ _ _ y => y⟩, ?_, ?_⟩
  · rintro i H hi ⟨us, q1, l1⟩
    exact ⟨us, us[i]'(by omega), q1, by simp [show i < us.length by omega]⟩
  · rintro H ⟨us, q1, l1⟩
    exact ⟨us, q1, l1⟩
  · rintro B2 Hs2 σ H Γ k1 s S
    obtain ⟨us, q1, d1⟩ := p B2 Hs2 σ H Γ k1 s S
    exact ⟨us, q1, d1.len⟩
  · rintro B2 i Hs2 σ H Γ x H' hi k1 s S ⟨c, y, rfl, hc, rfl, g1⟩
    obtain ⟨us, q1, d1⟩ := p B2 Hs2 σ H Γ k1 s S
    obtain ⟨d, e1, v1⟩ := dvs_get' d1 (g1 us q1)
    obtain ⟨kk2, T⟩ := S.new (o := .tup [.int (i : Nat), y]) hc
    refine ⟨_, kk2, T, ?_⟩
    show Dv _ _ (.tuple [.int i, nth ds i])
    rw [nth_at e1]
    exact .tup (.inl upd_same) (.cons (.int _) (.cons (v1.mono kk2) .nil))
theorem gi_enumT {x : Str} {p tpos : Pos} {e : Expr} {elts : List Expr} {n1 : Nat} {φ : Nat → (Nat → PyData) → (List Sl → Prop) → List Sl → Prop} (hx : x = "enumerate") (hg : Gl X x) (hm : X.mg x = none)
    (hs : starEach [e] X.env = [(false, eval e X.env)])
    (h : GS B X false e Γ fun ds keep Γ1 => keep Γ1 ∧ φ ds.length (fun i => .tuple [.int i, nth ds i]) keep Γ1) : GI B X (.Tuple elts n1 tpos) (.Call (.Name x p) [e] [] pos) Γ φ := by
  subst hx
  intro Hs σ H R S g
  refine pi_of (Tz.pi_enumT hg hm (pa_cons pe_W pa_nil hs) hs) ?_
  refine show teW X e σ H _ from h Hs σ H _ S fun ds keep Γ1 a Hs1 H1 ⟨k1, p1⟩ s1 S1 pr => ?_
  obtain ⟨us, q1, d1⟩ := pers_q pr S1 k1
  exact ⟨a, us, rfl, q1, g _ _ keep Γ1 _ Hs1 H1 p1 s1 S1 (its_enumT pr)⟩
end
end Py
namespace Py
open PySem PySem.Spec PyProof.Rows L2 Tc Px
section
variable {B : Bas} {X : Cx} {Γ : List Sl} {pos : Pos}
/-- a test that is the truth of a list -/
theorem gt_lst {e : Expr} {φ : Bool → List Sl → Prop} (h : GE B X e Γ fun d Γ' => ∃ xs, d = .list xs ∧ φ (!xs.isEmpty) Γ') (he : ∀ whole, isTrue e X.env whole = (do let v ← whole; standAt e.pos; holding [v] (truthy v))) : GT B X e Γ φ := fun Hs σ H Q S g =>
  pt_of (pt_truth pe_W he) (show teW X e σ H _ from h Hs σ H _ S fun d Γ' v Hs' H' ⟨xs, e, p⟩ s T q => by
    subst e
    cases q with
    | @lst p0 vs _ r dv =>
      refine ⟨!vs.isEmpty, .inl ⟨vs, rdL (rd_up T.sub r), rfl⟩, ?_⟩
      have e : vs.isEmpty = xs.isEmpty := by
        have := dv.len
        cases vs <;> cases xs <;> first | rfl | cases this
      rw [e]
      exact g _ Γ' Hs' _ p s T)
end
end Py
namespace Py
open PySem PySem.Spec PyProof.Rows L2 Tc Px
section
variable {B : Bas} {X : Cx} {Γ : List Sl} {pos : Pos} {k : Nat} {E : DE} {N : List Str}
/-- x, y = a, b; x a list of its own -/
theorem par_on {i j : Nat} {x y : Str} {a b : Expr} {px py pt : Pos} {kt k2 : Nat} {pt2 : Pos} (c : Bod X k) (nd : N.Nodup) (eN : X.N = N) (hi : idxS X.N x = some i) (hj : idxS X.N y = some j) (hij : Nat.beq i j = false)
    (hx : X.env.scope.names.lookup x = some .local) (hy : X.env.scope.names.lookup y = some .local)
    (hw : swappedStores [.Tuple [.Name x px, .Name y py] kt pt] (.Tuple [a, b] k2 pt2) X.env = pure (some [x, y])) (hs : swapsWithSole [.Tuple [.Name x px, .Name y py] kt pt] (.Tuple [a, b] k2 pt2) pos.line X.env = pure false)
    (h1 : starEach [a, b] X.env = (false, eval a X.env) :: starEach [b] X.env) (h2 : starEach [b] X.env = (false, eval b X.env) :: starEach [] X.env)
    (h : GF B X a Γ fun ds Γ1 => ∀ B' : Bas, GE B' X b Γ1 fun d Γ2 => Nat.ble (i + 1) Γ2.length = true ∧ Nat.ble (j + 1) Γ2.length = true ∧ ∀ ad, Alone Γ2 ad → E.nx ((Γ2.set i (.own ad ds)).set j (.d d))) : G1 B X (.Assign [.Tuple [.Name x px, .Name y py] kt pt] (.Tuple [a, b] k2 pt2) pos) Γ E := fun D Hs σ H R S =>
  ps_of (ps_par c.calm (eN ▸ nd) (idxS_ok hi) (idxS_ok hj) (Nat.ne_of_beq_eq_false hij) hx hy (pa_cons pe_W (pa_cons pe_W pa_nil h2) h1) hw hs) (show teW X a σ H _ from h Hs σ H _ S fun ds Γ1 l vs Hs1 H1 p s1 S1 f n al ha dv => show teW X b σ H1 _ from p ⟨L2.upd B.fr l (.lst vs), Hs1, B.T⟩ Hs1 σ H1 _ (S1.hold ha n f al) fun d Γ2 v Hs2 H2 ⟨l1, l2, p2⟩ s2 S2 q2 => by
    obtain ⟨S2, ha2, n2, al2⟩ := S2.loose S1.gr f n
    exact ⟨_, _, rfl, R.nx _ Hs2 _ H2 (p2 l al2) (s1.trans s2) ((S2.putL (Nat.le_of_ble_eq_true l1) f n2 ha2 (dv.mono s2) al2).putD (by rw [List.length_set]; exact Nat.le_of_ble_eq_true l2) q2)⟩)
/-- x, y, z = a, b, c -/
theorem par_n3 {i j l : Nat} {x y z : Str} {a b e : Expr} {px py pz pt : Pos} {kt k2 : Nat} {pt2 : Pos} (c : Bod X k) (nd : N.Nodup) (eN : X.N = N) (hi : idxS X.N x = some i) (hj : idxS X.N y = some j) (hl : idxS X.N z = some l) (hij : Nat.beq i j = false) (hil : Nat.beq i l = false) (hjl : Nat.beq j l = false)
    (hx : X.env.scope.names.lookup x = some .local) (hy : X.env.scope.names.lookup y = some .local) (hz : X.env.scope.names.lookup z = some .local)
    (hw : swappedStores [.Tuple [.Name x px, .Name y py, .Name z pz] kt pt] (.Tuple [a, b, e] k2 pt2) X.env = pure (some [x, y, z])) (hs : swapsWithSole [.Tuple [.Name x px, .Name y py, .Name z pz] kt pt] (.Tuple [a, b, e] k2 pt2) pos.line X.env = pure false)
    (h : GA B X [a, b, e] Γ fun ds Γ1 => ∃ d1 d2 d3, ds = [d1, d2, d3] ∧ Nat.ble (i + 1) Γ1.length = true ∧ Nat.ble (j + 1) Γ1.length = true ∧ Nat.ble (l + 1) Γ1.length = true ∧ E.nx (((Γ1.set i (.d d1)).set j (.d d2)).set l (.d d3))) : G1 B X (.Assign [.Tuple [.Name x px, .Name y py, .Name z pz] kt pt] (.Tuple [a, b, e] k2 pt2) pos) Γ E := fun D Hs σ H R S =>
  ps_of (ps_par3 c.calm (eN ▸ nd) (idxS_ok hi) (idxS_ok hj) (idxS_ok hl) (Nat.ne_of_beq_eq_false hij) (Nat.ne_of_beq_eq_false hil) (Nat.ne_of_beq_eq_false hjl) hx hy hz pa_W hw hs) (h Hs σ H _ S fun ds Γ1 vs Hs1 H1 ⟨d1, d2, d3, ed, l1, l2, l3, p⟩ s S1 dv => by
    subst ed
    cases dv with
    | cons a1 r =>
    cases r with
    | cons a2 r =>
    cases r with
    | cons a3 r =>
    cases r
    refine ⟨_, _, _, rfl, R.nx _ Hs1 _ H1 p s (((S1.putD (Nat.le_of_ble_eq_true l1) a1).putD (by rw [List.length_set]; exact Nat.le_of_ble_eq_true l2) a2).putD (by rw [List.length_set, List.length_set]; exact Nat.le_of_ble_eq_true l3) a3)⟩)
/-- a comprehension that changes something -/
theorem gf_lcS {elt t iter : Expr} {ifs : List Expr} {scope : Scope} {φ : List PyData → List Sl → Prop} (calm : X.calm = true) (nd : N.Nodup) (eN : X.N = N) {own : List (Str × Nat)} (eo : ownS N scope = own) (ok : blkC N X.env.scope scope own = true)
    (hs : ∀ x, foldedSetIterable iter X.env x = pure x)
    (h : GI B X t iter Γ fun n f keep Γ1 => ∃ I : Nat → List PyData → List Sl → Prop, I 0 [] (clr Γ1 (own.map (·.2))) ∧ (∀ i acc Γ, i ≤ n → I i acc Γ → keep Γ) ∧
      (∀ i acc Γ, i < n → I i acc Γ → ∀ B', Blk X scope fun Y => GC B' Y (own.map (·.2)) t (f i) (clr Γ (own.map (·.2))) fun Γ2 => Blk X scope fun Y => GP B' Y ifs Γ2 fun b Γ3 => if b = true then Blk X scope fun Y => GE B' Y elt Γ3 fun d Γ4 => acc.length < sizeLine ∧ I (i + 1) (acc ++ [d]) (clr Γ4 (own.map (·.2))) else I (i + 1) acc (clr Γ3 (own.map (·.2)))) ∧
      ∀ acc Γ, I n acc Γ → φ acc Γ) : GF B X (.ListComp elt [⟨t, iter, ifs, 0⟩] scope pos) Γ φ := gf_lc calm (eN ▸ nd) (blkOk_by (eN.symm ▸ ok)) h hs
end
end Py
/-! A def of one thing called by its name. -/
namespace Py
open PySem PySem.Spec PyProof.Rows L2 Tc Px
section
variable {B : Bas} {X : Cx} {Γ : List Sl} {pos : Pos} {k j n : Nat} {P : Program} {w : World} {K : PySem.W.Frag} {mg : Str → Option Value} {base : Heap}
theorem call_R1 {x : Str} {p : Pos} {ks : List Keyword} {a : Expr} {n1 : Option Str} {p1 : Pos} {ps ns : List Str} {sp : Sp} {W : WX} (F : CallR X.prog X.w X.K X.mg X.base (L2.CX X.prog X.w) j x ps sp ns) (c : Cxt X k) (hj : j ≤ k) (hg : Gl X x) (tk : Takes X W)
    (hk : ks = [⟨n1, a, p1⟩])
    (hall : (backToKw pos (keywordEach ks X.env)).all (·.1.isSome) = true)
    (hks : (backToKw pos (keywordEach ks X.env)).filterMap (·.1) = ns)
    (hpl : ((backTo pos (starEach [] X.env)).any (·.1) || (backToKw pos (keywordEach ks X.env)).any (·.1.isNone)) = false)
    (hl : ns.length = ps.length) (hdb : (x == ("__debug__" : Str)) = false)
    {σ : L2.St} {H : Hp} {Q : VK} (h : teW X a σ H fun va H1 => sp [va] H1 Q fun cl d H' => W cl d σ H') : teW X (.Call (.Name x p) [] ks pos) σ H Q := teI fun pins s I => by
  subst hk
  obtain ⟨f, fd, G, hm, kp, hb⟩ := F.ex
  have PKs : PK X [⟨n1, a, p1⟩] (tCons (teW X a) tNil) := pk_cons pe_W pk_nil
  refine wpAny_Call_Name_kw (ld_glob I hg hm ?_ hdb)
  refine PySem.W.callWith_KW0 (h₀ := X.base) I.ok.mod.kin kp hall (thn (PKs.run pos pins s σ H (fun vs H2 => sp vs.reverse H2 Q fun cl d H' => W cl d σ H') I h) ?_) hpl
  rintro us s1 ⟨vs, H1, I1, r, q⟩
  refine ⟨I1.kIn, ?_⟩
  rw [hks]
  have l1 := G.len _ _ _ _ q
  rw [List.length_reverse] at l1
  have main := G.run X.A X.stack s1 H1 ⟨[], ns.zip us⟩ us.reverse vs.reverse Q _ (c.room.mono hj) c.gd I1.env0 (hb s1 us (by rw [← r.length, l1, hl])) (vals_rev r) q
  refine wpAny_call (codeAny_mono main ?_)
  intro res s' hq
  cases res with
  | error er => exact tk er s' (XE.of_call I1 (fun _ _ _ h => h) hq)
  | ok fl =>
    cases fl with
    | ret u => exact I1.after hq
    | next | brk | cont => exact False.elim hq
theorem ge_callR1 {x : Str} {p : Pos} {a : Expr} {n1 : Option Str} {p1 : Pos} {ps ns : List Str} {pre : List PyData → Prop} {f : List PyData → Out} {ψ : Addr → PyData → List Sl → Prop} {φ : PyData → List Sl → Prop} (hX : SameX X P w K mg base) (F : CallR P w K mg base (L2.CX P w) j x ps (spF 1 pre f) ns) (c : Cxt X k) (hj : Nat.ble j k = true) (hg : Gl X x) (ex : Exc B X ψ)
    (h : GE B X a Γ fun d1 Γ1 => pre [d1] ∧ (f [d1]).to (fun d => φ d Γ1) (fun C d => ψ C d Γ1)) (hdb : (x == ("__debug__" : Str)) = false)
    (hall : (backToKw pos (keywordEach [⟨n1, a, p1⟩] X.env)).all (·.1.isSome) = true)
    (hks : (backToKw pos (keywordEach [⟨n1, a, p1⟩] X.env)).filterMap (·.1) = ns)
    (hpl : ((backTo pos (starEach [] X.env)).any (·.1) || (backToKw pos (keywordEach [⟨n1, a, p1⟩] X.env)).any (·.1.isNone)) = false)
    (hl : ns.length = ps.length) : GE B X (.Call (.Name x p) [] [⟨n1, a, p1⟩] pos) Γ φ := fun Hs σ H Q S g => by
  obtain ⟨rfl, rfl, rfl, rfl, rfl⟩ := hX
  obtain ⟨W, tk, hW⟩ := ex
  refine call_R1 F c (Nat.le_of_ble_eq_true hj) hg tk rfl hall hks hpl hl hdb (show teW X a σ H _ from h Hs σ H _ S fun d1 Γ1 v1 Hs1 H1 ⟨hp, q⟩ s1 S1 q1 => ⟨Hs1, [d1], S1.sub, .cons q1 .nil, rfl, hp, fun v Hs3 H3 k1 k2 k3 => ?_⟩)
  obtain ⟨s3, S3⟩ := S1.step k3 k1 k2
  cases e : f [d1] with
  | ok d =>
    rw [e] at q
    exact fun dd => g d Γ1 v Hs3 H3 q (s1.trans s3) S3 dd
  | up C d =>
    rw [e] at q
    exact fun dvv dd hdd => hW C d Γ1 v Hs3 σ H3 q S3 dvv dd hdd
end
end Py
/-! zip of three sequences of any kinds, walked. -/
namespace Tz
open PySem PySem.Spec PyProof.Rows L2
theorem Seq2.on {k : Bool} {h h' : Heap} {a : Addr} {xs : Array Value} (q : Seq2 k h a xs) (s : ∀ o, h.get? a = some o → h'.get? a = some o) : Seq2 k h' a xs := by
  cases k with
  | true => exact Heap.IsList.at q s
  | false => exact Heap.IsTuple.at q s
theorem draws2 {prog : Program} {w : World} {A : Around} (hh : A.handled = none) (k : Bool) (it a : Addr) (ne : a ≠ it) (xs : Array Value) :
    Draws prog w A it [it, a] xs.size (fun i v => xs[i]? = some v) (fun i h => Run2 k h it a i ∧ Seq2 k h a xs) where
  live := fun i h st => by
    obtain ⟨o, _, e, _⟩ := st.1.obj
    exact ⟨o, e⟩
  frame := fun i h h' st kp => ⟨st.1.on fun o e => kp it (by simp) o e, st.2.on fun o e => kp a (by simp) o e⟩
  item := fun i s Q E hi st g => step_one st.1 st.2 (x := xs[i]) (by simp [hi]) fun h' r sb => g _ h' s.toks (by simp [hi]) ⟨r, st.2.but sb.extBut ne⟩ sb
  done := fun s Q E st g => step_end hh st.1 st.2 (by simp) fun h' x eb o => g h' x eb o
theorem begins2 (k : Bool) (a : Addr) (xs : Array Value) : Begins (.ref a) (iterO k a) fun h => Seq2 k h a xs := by
  cases k with
  | true => exact begins_list a xs
  | false => exact begins_tuple a xs
theorem run2_of {k : Bool} {h : Heap} {it a : Addr} (e : h.get? it = some (iterO k a)) : Run2 k h it a 0 := by
  cases k with
  | true => exact ⟨_, e, rfl, rfl⟩
  | false => exact ⟨_, e, rfl, rfl⟩
theorem six {z ti tp i1 i2 i3 c : Addr} (h : c ∈ [z, ti, tp, i1, i2, i3]) : c = z ∨ c = ti ∨ c = tp ∨ c = i1 ∨ c = i2 ∨ c = i3 := by simpa using h
end Tz
/-! zip of three. -/
namespace Py
open PySem PySem.Spec PyProof.Rows L2 Tc Tz Px
end Py
/-! x, y = a, b where one of the names is also used in a comprehension; x a list of its own. -/
namespace Py
open PySem PySem.Spec PyProof.Rows L2 Tc Tz Px
end Py
/-! a written tuple indexed; its greatest; x -= e; reversed(list); tuple * 0, 1. -/
namespace L2
open PySem PySem.Spec PyProof.Rows
end L2
namespace L2
open PySem PySem.Spec PyProof.Rows
end L2
namespace Py
open PySem PySem.Spec PyProof.Rows L2 Tc Tz Px
section
variable {B : Bas} {X : Cx} {Γ : List Sl} {pos : Pos} {k : Nat} {E : DE} {N : List Str} {P : Program} {w : World} {K : PySem.W.Frag} {mg : Str → Option Value} {base : Heap}
/-- T[j], T written at the module's top -/
theorem ge_ixW {x : Str} {px : Pos} {b : Expr} {a : Addr} {ds : List PyData} {φ : PyData → List Sl → Prop} (hX : SameX X P w K mg base) (W : Writ K mg x a ds) (hg : Gl X x) (hs : PlainIx b)
    (h : GE B X b Γ fun d2 Γ2 => ∃ i d, d2 = .int i ∧ atD ds i = some d ∧ φ d Γ2) (hd : (x == ("__debug__" : Str)) = false) : GE B X (.Subscript (.Name x px) b pos) Γ φ := fun Hs σ H Q S g => by
  obtain ⟨rfl, rfl, rfl, rfl, rfl⟩ := hX
  obtain ⟨vs, sq, dv⟩ := W.sq
  refine pe_of (pe_ix ix_seq (pe_glob (v := .ref a) hg W.gm rfl hd) pe_W hs) (show teW X b σ H _ from h Hs σ H _ S fun d2 Γ2 v2 Hs2 H2 ⟨i, d, e, q, p⟩ s2 S2 q2 => ?_)
  subst e
  cases q2
  obtain ⟨v, ev, dw⟩ := at_dvs (dv Hs2) q
  exact .inr (.inl ⟨a, vs, i, v, rfl, rfl, sq H2, ev, g d Γ2 v Hs2 H2 p s2 S2 dw⟩)
end
end Py
/-! == and != of an instance by the class's own __eq__, whatever stands on the right. -/
namespace Tc
open PySem PySem.Spec PySem.W PyProof.Rows
open Builtin
end Tc
namespace Tc
open PySem PySem.Spec PyProof.Rows L2
end Tc
/-! x in a list of data that are plain all through. -/
namespace Py
open PySem PySem.Spec PyProof.Rows L2 Tc Tz Px
section
variable {B : Bas} {X : Cx} {Γ : List Sl} {pos : Pos} {k : Nat} {P : Program} {w : World} {K : PySem.W.Frag} {mg : Str → Option Value} {base : Heap}
def rInA : R2 := fun x y H Q => ∃ d ds, Dv H x d ∧ Dv H y (.list ds) ∧ SeqAt.shaped d = true ∧ SeqAt.shaped (.list ds) = true ∧ Q (.bl (ds.any fun z => PyData.eqv z d)) H
theorem op_inA (c : Cxt X k) : OpR X (compareOp .In) rInA := by
  intro pins s σ H x y v u Q I rx ry h
  obtain ⟨d, e, hd, he, sd, se, q⟩ := h
  obtain ⟨as, r1, _⟩ := hd.reads clean_noDict I (sm_none c.sm I) (shaped_nd sd) v rx
  obtain ⟨bs, r2, _⟩ := he.reads clean_noDict I (sm_none c.sm I) (shaped_nd se) u ry
  have hu : X.A.units + 65 < cLine := by
    have := c.room.un
    omega
  exact SeqAt.in_list_reads r2 r1 (SeqAt.canLay_of_shaped se) (SeqAt.canLay_of_shaped sd) (room_in_shaped sd hu) ⟨.bl _, H, I, rfl, q⟩
def InA (d1 d2 : PyData) (k : Bool → Prop) : Prop := ∃ ds, d2 = .list ds ∧ SeqAt.shaped d1 = true ∧ SeqAt.shaped d2 = true ∧ k (ds.any fun z => PyData.eqv z d1)
theorem sem_inA (d1 d2 : PyData) (k : Bool → Prop) (h : InA d1 d2 k) : Cmp2 rInA d1 d2 k := fun H v1 v2 Q q1 q2 g => by
  obtain ⟨ds, rfl, s1, s2, hk⟩ := h
  exact ⟨_, ds, q1, q2, s1, s2, g _ hk⟩
theorem gt_inA {a b : Expr} {ψ : Bool → List Sl → Prop} (c : Cxt X k) (hm : behindInMarks .In b = false) (h : GE B X a Γ fun d1 Γ1 => GB B X b Γ1 fun d2 Γ2 => InA d1 d2 fun c => ψ c Γ2) : GT B X (.Compare a [.In] [b] pos) Γ ψ := gt_cmp (op_inA c) InA sem_inA hm h
end
end Py
/-! A def called by its names, in their order. -/
namespace Py
open PySem PySem.Spec PyProof.Rows L2 Tc Px
end Py
/-! A while loop: an invariant with a number that falls. -/
namespace Py
open PySem PySem.Spec PyProof.Rows L2 Tc Px
section
variable {B : Bas} {X : Cx} {Γ : List Sl} {pos : Pos} {E : DE}
theorem g1_while {c : Expr} {body : List Stmt} {k : Nat} (cx : Bod X k) (h : ∃ I : Nat → List Sl → Prop, (∃ m, I m Γ) ∧ ∀ m Γ, I m Γ → GT B X c Γ fun b Γ1 => if b = true then Gs B X body Γ1 { E with nx := fun Γ2 => ∃ m', m' < m ∧ I m' Γ2, ct := fun Γ2 => ∃ m', m' < m ∧ I m' Γ2, bk := E.nx } else E.nx Γ1) : G1 B X (.While c body [] pos) Γ E := fun D Hs σ H R S => by
  obtain ⟨I, ⟨m0, i0⟩, step⟩ := h
  refine ps_of (ps_while cx.po pt_W pss_W) ⟨fun m σ' H' => ∃ Γ' Hs', I m Γ' ∧ Same Hs Hs' ∧ Sx B Hs' σ' H' Γ', ⟨m0, Γ, Hs, i0, Same.refl _, S⟩, fun m σ' H' ⟨Γ', Hs', p, s', S'⟩ => ?_⟩
  refine show ttW X c σ' H' _ from step m Γ' p Hs' σ' H' _ S' fun b Γ1 Hs1 H1 q s1 S1 => ?_
  have s01 : Same Hs Hs1 := s'.trans s1
  cases b with
  | true =>
    rw [if_pos rfl] at q
    rw [if_pos rfl]
    refine ⟨fun σ4 H4 => ∃ m', m' < m ∧ ∃ Γ4 Hs4, I m' Γ4 ∧ Same Hs Hs4 ∧ Sx B Hs4 σ4 H4 Γ4, fun σ4 H4 z => z, ?_⟩
    refine q { D with nx := fun σ4 H4 => ∃ m', m' < m ∧ ∃ Γ4 Hs4, I m' Γ4 ∧ Same Hs Hs4 ∧ Sx B Hs4 σ4 H4 Γ4, ct := fun σ4 H4 => ∃ m', m' < m ∧ ∃ Γ4 Hs4, I m' Γ4 ∧ Same Hs Hs4 ∧ Sx B Hs4 σ4 H4 Γ4, bk := D.nx } Hs1 σ' H1 ⟨fun Γ4 Hs4 σ4 H4 p4 s4 S4 => ?_, fun d Γ4 v Hs4 σ4 H4 p4 s4 S4 q4 => R.rt d Γ4 v Hs4 σ4 H4 p4 (s01.trans s4) S4 q4, fun Γ4 Hs4 σ4 H4 p4 s4 S4 => R.nx Γ4 Hs4 σ4 H4 p4 (s01.trans s4) S4, fun Γ4 Hs4 σ4 H4 p4 s4 S4 => ?_⟩ S1
    · obtain ⟨m', lt, p4⟩ := p4
      exact ⟨m', lt, Γ4, Hs4, p4, s01.trans s4, S4⟩
    · obtain ⟨m', lt, p4⟩ := p4
      exact ⟨m', lt, Γ4, Hs4, p4, s01.trans s4, S4⟩
  | false =>
    rw [if_neg (by decide)] at q
    rw [if_neg (by decide)]
    exact R.nx Γ1 Hs1 σ' H1 q s01 S1
end
end Py
/-! math.gcd, imported by name; sorted of ints of any number. -/
namespace Py
open PySem PySem.Spec PyProof.Rows L2 Tc Px
section
variable {B : Bas} {X : Cx} {Γ : List Sl} {pos : Pos} {k : Nat} {P : Program} {w : World} {K : PySem.W.Frag} {mg : Str → Option Value} {base : Heap}
theorem ge_gcd {x : Str} {p : Pos} {a b : Expr} {φ : PyData → List Sl → Prop} (hX : SameX X P w K mg base) (hx : mg x = some (.builtin "math.gcd")) (hg : Gl X x) (hdb : (x == ("__debug__" : Str)) = false)
    (h : GA B X [a, b] Γ fun ds Γ1 => ∃ i j : Int, ds = [.int i, .int j] ∧ φ (.int ((Nat.gcd i.natAbs j.natAbs : Nat) : Int)) Γ1)
    (he : starEach [a, b] X.env = (false, eval a X.env) :: starEach [b] X.env) (hpl : (backTo pos (starEach [b] X.env)).any (·.1) = false) : GE B X (.Call (.Name x p) [a, b] [] pos) Γ φ := by
  obtain ⟨rfl, rfl, rfl, rfl, rfl⟩ := hX
  exact fun Hs σ H Q S g => pe_of (pe_callBfun cr_gcd hg hx pa_W hdb (he := he) (hpl := hpl)) (h Hs σ H _ S fun ds Γ1 vs Hs1 H1 ⟨i, j, e, p⟩ s S1 dv => by
    subst e
    exact ⟨i, j, dvs_ints (ns := [i, j]) dv, g _ Γ1 _ Hs1 H1 p s S1 (.int _)⟩)
end
end Py
/-! [elt for x in a for y in b]. -/
namespace Py
open PySem PySem.Spec PyProof.Rows L2 Tc Px
/-- a walk, by what holds at each turn -/
theorem w_walk {J : It} {n : Nat} {G : Hp → Prop} {Y : Nat → Hp → V → Hp → Prop} (w : Walk J n G Y) {H1 : Hp} {N : Hp → Prop} {B : V → Hp → (Hp → Prop) → Prop} (P : Nat → Hp → Prop) (h0 : P 0 H1) (hG : ∀ i H, i ≤ n → P i H → G H) (turn : ∀ i x H H', i < n → P i H → Y i H x H' → B x H' (P (i + 1))) (done : ∀ H, P n H → N H) :
    ∃ W : Nat → Nat → Hp → Prop, (∃ m, W 0 m H1) ∧ ∀ i m H, W i m H → (J.stop i H ∧ N H) ∨ (J.go i H ∧ ∃ N1 : Hp → Prop, (∀ H', N1 H' → ∃ m', m' < m ∧ W (i + 1) m' H') ∧ ∀ x H', J.yld i H x H' → B x H' N1) := by
  refine ⟨fun i m H => i ≤ n ∧ m + i = n ∧ P i H, ⟨n, Nat.zero_le _, rfl, h0⟩, fun i m H h => ?_⟩
  obtain ⟨hi, hm, hp⟩ := h
  by_cases lt : i < n
  · exact .inr ⟨w.goes i H lt (hG i H hi hp), P (i + 1), fun H' p' => ⟨m - 1, by omega, lt, by omega, p'⟩, fun x H' y => turn i x H H' lt hp (w.yields i H x H' lt (hG i H hi hp) y)⟩
  · obtain rfl : i = n := by omega
    exact .inl ⟨w.stops H (hG i H hi hp), done H hp⟩
def tiB (X : Cx) (scope : Scope) (t i : Expr) : TI := fun σ H R => ∀ s0 H0 C cl fp, tiW (blkX X scope s0 H0 C cl fp) t i σ H R
def ttY : TT := fun _ H Q => Q true H
theorem ttY_in {σ : L2.St} {H : Hp} {A N : Hp → Prop} (h : A H) : ttY σ H fun b H3 => if b = true then A H3 else N H3 := by
  show if true = true then A H else N H
  rw [if_pos rfl]
  exact h
section
variable {B : Bas} {X : Cx} {Γ : List Sl} {pos : Pos}
theorem gf_lc2 {elt t1 i1 t2 i2 : Expr} {scope : Scope} {own : List (Str × Nat)} {vs1 : List Nat} {φ : List PyData → List Sl → Prop} (calm : X.calm = true) (nd : X.N.Nodup) (ok : BlkOk X.N X.env.scope scope own) (hv : ∀ j ∈ vs1, j ∈ own.map (·.2))
    (hs1 : ∀ x, foldedSetIterable i1 X.env x = pure x) (hs2 : ∀ s H C cl fp, ∀ x, foldedSetIterable i2 (blkX X scope s H C cl fp).env x = pure x)
    (h : GI B X t1 i1 Γ fun n f keep Γ1 => ∃ I : Nat → List PyData → List Sl → Prop, I 0 [] (clr Γ1 (own.map (·.2))) ∧ (∀ i acc Γ, i ≤ n → I i acc Γ → keep Γ) ∧
      (∀ i acc Γ, i < n → I i acc Γ → ∀ B', Blk X scope fun Y => GC B' Y (own.map (·.2)) t1 (f i) (clr Γ (own.map (·.2))) fun Γ2 => Blk X scope fun Y => GI B' Y t2 i2 Γ2 fun n2 f2 keep2 Γ3 => ∃ I2 : Nat → List PyData → List Sl → Prop, I2 0 acc (clr Γ3 vs1) ∧ (∀ j acc Γ, j ≤ n2 → I2 j acc Γ → keep2 Γ) ∧
        (∀ j acc2 Γ, j < n2 → I2 j acc2 Γ → ∀ B'', Blk X scope fun Y => GC B'' Y vs1 t2 (f2 j) (clr Γ vs1) fun Γ4 => Blk X scope fun Y => GE B'' Y elt Γ4 fun d Γ5 => acc2.length < sizeLine ∧ I2 (j + 1) (acc2 ++ [d]) (clr Γ5 vs1)) ∧
        ∀ acc2 Γ, I2 n2 acc2 Γ → I (i + 1) acc2 (clr Γ (own.map (·.2)))) ∧
      ∀ acc Γ, I n acc Γ → φ acc Γ) : GF B X (.ListComp elt [⟨t1, i1, [], 0⟩, ⟨t2, i2, [], 0⟩] scope pos) Γ φ := fun Hs σ H Q S g =>
  pe_of (pe_lcN (g := tgB X scope t1) (tt := ttY) (u := fun D => tIn (tiB X scope t2 i2) (tgB X scope t2) ttY (tEnd D (teB X scope elt)) vs1) (vs1 := vs1)
    (rest := fun D env => restM (.ListComp elt [⟨t1, i1, [], 0⟩, ⟨t2, i2, [], 0⟩] scope pos) i2 1 (.ref D) env)
    calm nd pi_W ok hv (fun _ _ _ => turn_mid rfl rfl) (fun s0 H0 C cl fp => ⟨fun pins s _ _ _ u _ I r h => tgE (h s0 H0 C cl fp) pins s u I r⟩) (fun _ _ _ _ _ => pts_nil)
    (fun s0 H0 C cl fp D => cl_in (k := 1) (D := D) (vs := vs1) (vs1 := []) calm rfl rfl (hs2 s0 H0 C cl fp) (fun _ z => nomatch z) (fun _ => turn_last rfl rfl) ⟨fun pins s _ _ _ I h => tiE (h s0 H0 C cl fp) pins s I⟩ ⟨fun pins s _ _ _ u _ I r h => tgE (h s0 H0 C cl fp) pins s u I r⟩ pts_nil (cl_last rfl ⟨fun pins s _ _ _ I h => teE (h s0 H0 C cl fp) pins s I⟩)) hs1)
    (h Hs σ H _ S fun n f keep Γ1 J Hs1 H1 ⟨I, i0, ik, step, done⟩ s S1 ⟨G, Y, w, wg, wy⟩ D hD => by
      obtain ⟨fD, nD, al⟩ := alone_new S1 hD
      refine w_walk w (fun i H' => ∃ acc vs Γ' Hs', I i acc Γ' ∧ Same Hs1 Hs' ∧ Sx B Hs' σ H' Γ' ∧ H' D = some (.lst vs) ∧ DvAll Hs' vs acc ∧ Hs' D = none ∧ Alone Γ' D) ⟨[], [], _, Hs1, i0, Same.refl _, (S1.aside hD).clr rfl (fun _ _ => rfl), upd_same, .nil, nD, fun i b es e => al i b es (clr_some e fun z => nomatch z).2⟩ ?_ ?_ ?_
      · rintro i H' hi ⟨acc, vs, Γ', Hs', p, s', S', _⟩
        exact wg B Hs' σ H' Γ' (ik i acc Γ' hi p) s' S'
      · rintro i x H' H'' hi ⟨acc, vs, Γ', Hs', p, s', S', hD', dv, nD', al'⟩ y
        have SB := S'.hold hD' nD' fD al'
        have g0 : Grow B.fr B.hs Hs' := S'.gr
        obtain ⟨Hs2, s2, S2, dx⟩ := wy _ i Hs' σ H' Γ' x H'' hi (ik i acc Γ' (Nat.le_of_lt hi) p) s' SB y
        have body := step i acc Γ' hi p ⟨upd B.fr D (.lst vs), Hs', B.T⟩
        have S2w : Sx ⟨upd B.fr D (.lst vs), Hs', B.T⟩ Hs2 (wipe σ (own.map (·.2))) H'' (clr Γ' (own.map (·.2))) := S2.clr (wipe_length _ _) fun j hj => wipe_out hj
        intro s0 H0 C cl fp
        refine body s0 H0 C cl fp Hs2 (wipe σ (own.map (·.2))) H'' x _ S2w dx fun Γ2 Hs3 σ3 H3 p3 s3 S3 w3 => ?_
        have w3 : wipe σ3 (own.map (·.2)) = wipe σ (own.map (·.2)) := w3.trans (wipe_eq (wipe_length _ _) fun j hj => wipe_out hj)
        refine ⟨w3, ttY_in ?_⟩
        intro s0 H0 C cl fp
        refine p3 s0 H0 C cl fp Hs3 σ3 H3 _ S3 fun n2 f2 keep2 Γ3 J2 Hs4 H4 ⟨I2, i20, ik2, step2, done2⟩ s4 S4 ⟨G2, Y2, w2, wg2, wy2⟩ => ?_
        obtain ⟨S4b, hD4, nD4, al4⟩ := S4.loose g0 fD nD'
        have sA : Same Hs' Hs4 := s2.trans (s3.trans s4)
        refine w_walk w2 (fun j H' => ∃ acc2 vs2 Γ' Hs', I2 j acc2 Γ' ∧ Same Hs4 Hs' ∧ Sx B Hs' σ3 H' Γ' ∧ H' D = some (.lst vs2) ∧ DvAll Hs' vs2 acc2 ∧ Hs' D = none ∧ Alone Γ' D) ⟨acc, vs, _, Hs4, i20, Same.refl _, S4b.clr rfl (fun _ _ => rfl), hD4, dv.mono sA, nD4, fun i b es e => al4 i b es (clr_some e fun z => nomatch z).2⟩ ?_ ?_ ?_
        · rintro j H5 hj ⟨acc2, vs2, Γ5, Hs5, p5, s5, S5, _⟩
          exact wg2 B Hs5 σ3 H5 Γ5 (ik2 j acc2 Γ5 hj p5) s5 S5
        · rintro j x2 H5 H6 hj ⟨acc2, vs2, Γ5, Hs5, p5, s5, S5, hD5, dv5, nD5, al5⟩ y2
          have SB5 := S5.hold hD5 nD5 fD al5
          have g5 : Grow B.fr B.hs Hs5 := S5.gr
          obtain ⟨Hs6, s6, S6, dx6⟩ := wy2 _ j Hs5 σ3 H5 Γ5 x2 H6 hj (ik2 j acc2 Γ5 (Nat.le_of_lt hj) p5) s5 SB5 y2
          have body2 := step2 j acc2 Γ5 hj p5 ⟨upd B.fr D (.lst vs2), Hs5, B.T⟩
          have S6w : Sx ⟨upd B.fr D (.lst vs2), Hs5, B.T⟩ Hs6 (wipe σ3 vs1) H6 (clr Γ5 vs1) := S6.clr (wipe_length _ _) fun j hj => wipe_out hj
          intro s0 H0 C cl fp
          refine body2 s0 H0 C cl fp Hs6 (wipe σ3 vs1) H6 x2 _ S6w dx6 fun Γ7 Hs7 σ7 H7 p7 s7 S7 w7 => ?_
          have w7 : wipe σ7 vs1 = wipe σ3 vs1 := w7.trans (wipe_eq (wipe_length _ _) fun j hj => wipe_out hj)
          refine ⟨w7, ttY_in ?_⟩
          intro s0 H0 C cl fp
          refine p7 s0 H0 C cl fp Hs7 σ7 H7 _ S7 fun d Γ8 v8 Hs8 H8 ⟨hl, p8⟩ s8 S8 q8 => ?_
          obtain ⟨l8, e8⟩ := wipe_same w7
          obtain ⟨Sb, hb, nb, ab⟩ := (S8.clr (vs := vs1) l8.symm fun j hj => (e8 j hj).symm).loose g5 fD nD5
          have sAll : Same Hs5 Hs8 := s6.trans (s7.trans s8)
          exact ⟨vs2, hb, by rw [dv5.len]; exact hl, acc2 ++ [d], vs2 ++ [v8], _, Hs8, p8, s5.trans sAll, Sb.beside hb rfl nb fD ab, upd_same, dvs_snoc (dv5.mono sAll) q8, nb, ab⟩
        · rintro H5 ⟨acc2, vs2, Γ5, Hs5, p5, s5, S5, hD5, dv5, nD5, al5⟩
          obtain ⟨l3, e3⟩ := wipe_same w3
          exact ⟨acc2, vs2, _, Hs5, done2 acc2 Γ5 p5, s'.trans (sA.trans s5), S5.clr (vs := own.map (·.2)) l3.symm fun j hj => (e3 j hj).symm, hD5, dv5, nD5, fun i b es e => al5 i b es (clr_some e fun z => nomatch z).2⟩
      · rintro H' ⟨acc, vs, Γ', Hs', p, s', S', hD', dv, nD', al'⟩
        exact g acc Γ' D vs Hs' H' (done acc Γ' p) (s.trans s') S' fD nD' al' hD' dv)
theorem flat_le {L : Nat → List PyData} {b : Nat} : ∀ {n : Nat}, (∀ i, i < n → (L i).length ≤ b) → ((List.range n).flatMap L).length ≤ n * b
  | 0, _ => by simp
  | n + 1, h => by
    rw [List.range_succ, List.flatMap_append, List.length_append, List.flatMap_cons, List.flatMap_nil, List.append_nil, Nat.add_mul, Nat.one_mul]
    have := flat_le (L := L) (b := b) (n := n) fun i hi => h i (by omega)
    have := h n (by omega)
    omega
/-- one that only looks -/
theorem gf_lk2 {N : List Str} {elt t1 i1 t2 i2 : Expr} {scope : Scope} {own : List (Str × Nat)} {vs1 : List Nat} {φ : List PyData → List Sl → Prop} (calm : X.calm = true) (nd : N.Nodup) (eN : X.N = N) (eo : ownS N scope = own) (ok : blkC N X.env.scope scope own = true) (hv : (vs1.all fun j => (own.map (·.2)).contains j) = true)
    (hs1 : ∀ x, foldedSetIterable i1 X.env x = pure x) (hs2 : ∀ s H C cl fp, ∀ x, foldedSetIterable i2 (blkX X scope s H C cl fp).env x = pure x)
    (h : GI B X t1 i1 Γ fun n f keep Γ1 => keep (clr Γ1 (own.map (·.2))) ∧ ∃ (L : Nat → List PyData) (b : Nat), (∀ i, i < n → (L i).length ≤ b) ∧ n * b ≤ sizeLine ∧
      (∀ i, i < n → ∀ B', Blk X scope fun Y => GC B' Y (own.map (·.2)) t1 (f i) (clr Γ1 (own.map (·.2))) fun Γ2 => Blk X scope fun Y => GI B' Y t2 i2 Γ2 fun n2 f2 keep2 Γ3 => keep2 (clr Γ3 vs1) ∧ clr (clr Γ3 vs1) (own.map (·.2)) = clr Γ1 (own.map (·.2)) ∧ ∃ F : Nat → PyData, L i = (List.range n2).map F ∧
        ∀ j, j < n2 → ∀ B'', Blk X scope fun Y => GC B'' Y vs1 t2 (f2 j) (clr Γ3 vs1) fun Γ4 => Blk X scope fun Y => GE B'' Y elt Γ4 fun d Γ5 => d = F j ∧ clr Γ5 vs1 = clr Γ3 vs1) ∧
      φ ((List.range n).flatMap L) (clr Γ1 (own.map (·.2)))) : GF B X (.ListComp elt [⟨t1, i1, [], 0⟩, ⟨t2, i2, [], 0⟩] scope pos) Γ φ := by
  refine gf_lc2 (vs1 := vs1) calm (eN ▸ nd) (blkOk_by (eN.symm ▸ ok)) (fun j hj => List.contains_iff_mem.mp (List.all_eq_true.mp hv j hj)) hs1 hs2 fun Hs σ H R S g => h Hs σ H R S fun n f keep Γ1 J Hs1 H1 ⟨kp, L, b, lb, lt, step, fin⟩ s S1 it => g n f keep Γ1 J Hs1 H1 ?_ s S1 it
  refine ⟨fun i acc Γ' => Γ' = clr Γ1 (own.map (·.2)) ∧ acc = (List.range i).flatMap L, ⟨rfl, rfl⟩, fun i acc Γ' _ ⟨e, _⟩ => e ▸ kp, ?_, ?_⟩
  · rintro i acc Γ' hi ⟨rfl, rfl⟩ B' s0 H0 C cl fp
    rw [clr_clr]
    intro Hs2 σ2 H2 v Q S2 dv g2
    refine step i hi B' s0 H0 C cl fp Hs2 σ2 H2 v Q S2 dv fun Γ2 Hs3 σ3 H3 p2 s3 S3 w3 => g2 Γ2 Hs3 σ3 H3 (fun s0 H0 C cl fp => ?_) s3 S3 w3
    intro Hs4 σ4 H4 Q4 S4 g4
    refine p2 s0 H0 C cl fp Hs4 σ4 H4 Q4 S4 fun n2 f2 keep2 Γ3 J2 Hs5 H5 ⟨kp2, ec, F, eL, step2⟩ s5 S5 it2 => g4 n2 f2 keep2 Γ3 J2 Hs5 H5 ?_ s5 S5 it2
    refine ⟨fun j acc Γ' => Γ' = clr Γ3 vs1 ∧ acc = (List.range i).flatMap L ++ (List.range j).map F, ⟨rfl, by rw [List.range_zero, List.map_nil, List.append_nil]⟩, fun j acc Γ' _ ⟨e, _⟩ => e ▸ kp2, ?_, ?_⟩
    · rintro j acc Γ' hj ⟨rfl, rfl⟩ B'' s0 H0 C cl fp
      rw [clr_clr]
      intro Hs6 σ6 H6 v6 Q6 S6 dv6 g6
      refine step2 j hj B'' s0 H0 C cl fp Hs6 σ6 H6 v6 Q6 S6 dv6 fun Γ4 Hs7 σ7 H7 p7 s7 S7 w7 => g6 Γ4 Hs7 σ7 H7 (fun s0 H0 C cl fp => ?_) s7 S7 w7
      intro Hs8 σ8 H8 Q8 S8 g8
      refine p7 s0 H0 C cl fp Hs8 σ8 H8 Q8 S8 fun d Γ5 v9 Hs9 H9 ⟨ed, ec9⟩ s9 S9 q9 => g8 d Γ5 v9 Hs9 H9 ⟨?_, ec9, ?_⟩ s9 S9 q9
      · have a1 := flat_le (L := L) (b := b) (n := i) fun k hk => lb k (by omega)
        have a2 := lb i hi
        rw [eL, List.length_map, List.length_range] at a2
        have a3 : (i + 1) * b ≤ n * b := Nat.mul_le_mul_right b hi
        rw [Nat.add_mul, Nat.one_mul] at a3
        rw [List.length_append, List.length_map, List.length_range]
        omega
      · rw [List.range_succ, List.map_append, ed, List.append_assoc] <;> rfl
    · rintro acc Γ' ⟨rfl, rfl⟩
      refine ⟨ec, ?_⟩
      rw [List.range_succ, List.flatMap_append, List.flatMap_cons, List.flatMap_nil, List.append_nil, eL]
  · rintro acc Γ' ⟨rfl, rfl⟩
    exact fin
end
end Py
/-! Numbers of people that shares fit: plain numbers. -/
namespace Pm
/-- so many parts of people, rounded up -/
def up (t n p : Int) : Int := -((-p * n) / t)
theorem up_spec {t : Int} (ht : 0 < t) (n p : Int) : p * n ≤ up t n p * t ∧ (up t n p - 1) * t < p * n := by
  unfold up
  have h1 := Int.ediv_mul_le (-p * n) (Int.ne_of_gt ht)
  have h2 := Int.lt_ediv_add_one_mul_self (-p * n) ht
  rw [Int.add_mul, Int.one_mul] at h2
  rw [Int.sub_mul, Int.neg_mul, Int.one_mul]
  rw [Int.neg_mul] at h1 h2 ⊢
  omega
theorem le_of_mul {x y t : Int} (ht : 0 < t) (h : x * t < (y + 1) * t) : x ≤ y := by
  have := Int.lt_of_mul_lt_mul_right h (Int.le_of_lt ht)
  omega
theorem up_le {t n p m : Int} (ht : 0 < t) (h : p * n ≤ m * t) : up t n p ≤ m := by
  have := (up_spec ht n p).2
  refine le_of_mul ht ?_
  rw [Int.sub_mul, Int.one_mul] at this
  rw [Int.add_mul, Int.one_mul]
  omega
theorem lt_up {t n p m : Int} (ht : 0 < t) (h : m * t < p * n) : m < up t n p := by
  have := (up_spec ht n p).1
  exact Int.lt_of_mul_lt_mul_right (Int.lt_of_lt_of_le h this) (Int.le_of_lt ht)
theorem up_ge {t n p m : Int} (ht : 0 < t) (h : up t n p ≤ m) : p * n ≤ m * t := by
  have := (up_spec ht n p).1
  exact Int.le_trans this (Int.mul_le_mul_of_nonneg_right h (Int.le_of_lt ht))
theorem up_mono {t n n' p : Int} (ht : 0 < t) (hp : 0 ≤ p) (h : n ≤ n') : up t n p ≤ up t n' p :=
  up_le ht (Int.le_trans (Int.mul_le_mul_of_nonneg_left h hp) (up_spec ht n' p).1)
/-- the least count and the one behind the greatest one, by the parts -/
def lo (t n s : Int) : Int := if 0 < s then up t n (2 * s - 1) else 0
def hi (t n s : Int) : Int := up t n (2 * s + 1) - 1
section
variable {u n s : Int}
theorem lo_nn (hu : 0 < u) (hn : 1 ≤ n) : 0 ≤ lo (2 * u) n s := by
  unfold lo
  split
  · have := lt_up (t := 2 * u) (n := n) (p := 2 * s - 1) (m := 0) (by omega) (by rw [Int.zero_mul]; exact Int.mul_pos (by omega) (by omega))
    omega
  · omega
theorem lo_le (hu : 0 < u) (hn : 1 ≤ n) (hs : s ≤ u) : lo (2 * u) n s ≤ n := by
  unfold lo
  split
  · refine up_le (by omega) ?_
    rw [Int.mul_comm n]
    exact Int.mul_le_mul_of_nonneg_right (by omega) (by omega)
  · omega
theorem hi_nn (hu : 0 < u) (hn : 1 ≤ n) (hs : 0 ≤ s) : 0 ≤ hi (2 * u) n s := by
  unfold hi
  have := lt_up (t := 2 * u) (n := n) (p := 2 * s + 1) (m := 0) (by omega) (by rw [Int.zero_mul]; exact Int.mul_pos (by omega) (by omega))
  omega
theorem lo_hi (hu : 0 < u) (hn : 1 ≤ n) (hs : 0 ≤ s) (h : u ≤ n) : lo (2 * u) n s ≤ hi (2 * u) n s := by
  have h0 := hi_nn hu hn hs
  unfold lo hi at *
  split
  · have := up_le (t := 2 * u) (n := n) (p := 2 * s - 1) (m := up (2 * u) n (2 * s + 1) - 1) (by omega) (by
      have := (up_spec (t := 2 * u) (by omega) n (2 * s + 1)).1
      rw [Int.sub_mul, Int.one_mul]
      rw [Int.add_mul, Int.one_mul] at this
      rw [Int.sub_mul, Int.one_mul]
      omega)
    omega
  · omega
theorem hi_lo (hu : 0 < u) (hn : 1 ≤ n) (hs : 0 ≤ s) (h : n < u) : hi (2 * u) n s ≤ lo (2 * u) n s := by
  unfold lo hi
  split
  · have := up_le (t := 2 * u) (n := n) (p := 2 * s + 1) (m := up (2 * u) n (2 * s - 1) + 1) (by omega) (by
      have := (up_spec (t := 2 * u) (by omega) n (2 * s - 1)).1
      rw [Int.add_mul, Int.one_mul]
      rw [Int.sub_mul, Int.one_mul] at this
      rw [Int.add_mul, Int.one_mul]
      omega)
    omega
  · have := up_le (t := 2 * u) (n := n) (p := 2 * s + 1) (m := 1) (by omega) (by
      obtain rfl : s = 0 := by omega
      omega)
    omega
end
/-! ### sums -/
def sm (f : Int → Int) (ss : List Int) : Int := (ss.map f).sum
theorem sm_nil (f : Int → Int) : sm f [] = 0 := rfl
theorem sm_cons (f : Int → Int) (s : Int) (ss : List Int) : sm f (s :: ss) = f s + sm f ss := by
  unfold sm
  rw [List.map_cons, List.sum_cons]
theorem sm_le {f g : Int → Int} : ∀ {ss : List Int}, (∀ s ∈ ss, f s ≤ g s) → sm f ss ≤ sm g ss
  | [], _ => Int.le_refl _
  | s :: ss, h => by
    have := sm_le (ss := ss) fun x hx => h x (.tail _ hx)
    have := h s (.head _)
    rw [sm_cons, sm_cons]
    omega
theorem sm_eq {f g : Int → Int} : ∀ {ss : List Int}, (∀ s ∈ ss, f s ≤ g s) → sm g ss ≤ sm f ss → ∀ s ∈ ss, f s = g s
  | [], _, _ => fun _ h => nomatch h
  | s :: ss, h, e => by
    have h1 := sm_le (ss := ss) fun x hx => h x (.tail _ hx)
    have h2 := h s (.head _)
    rw [sm_cons, sm_cons] at e
    have ih := sm_eq (ss := ss) (fun x hx => h x (.tail _ hx)) (by omega)
    intro x hx
    rcases List.mem_cons.mp hx with rfl | hx
    · omega
    · exact ih x hx
theorem sm_nn {f : Int → Int} {ss : List Int} (h : ∀ s ∈ ss, 0 ≤ f s) : 0 ≤ sm f ss := by
  have := sm_le (f := fun _ => 0) (g := f) h
  have e : ∀ l : List Int, sm (fun _ => 0) l = 0 := fun l => by
    induction l with
    | nil => rfl
    | cons x l ih => rw [sm_cons, ih] <;> rfl
  rw [e] at this
  exact this
theorem sm_min {f : Int → Int} {n : Int} (hn : 0 ≤ n) : ∀ {ss : List Int}, (∀ s ∈ ss, 0 ≤ f s) → n ≤ sm f ss → n ≤ sm (fun s => min (f s) n) ss := by
  intro ss h e
  by_cases c : ∃ s ∈ ss, n ≤ f s
  · obtain ⟨s, hs, hn⟩ := c
    clear e
    induction ss with
    | nil => exact nomatch hs
    | cons x ss ih =>
      rw [sm_cons]
      have h1 := sm_nn (f := fun s => min (f s) n) (ss := ss) fun y hy => by
        have := h y (.tail _ hy)
        omega
      rcases List.mem_cons.mp hs with rfl | hs
      · omega
      · have := ih (fun y hy => h y (.tail _ hy)) hs
        have := h x (.head _)
        omega
  · have : sm f ss ≤ sm (fun s => min (f s) n) ss := sm_le fun s hs => by
      have : ¬ n ≤ f s := fun z => c ⟨s, hs, z⟩
      omega
    omega
theorem sm_sub1 (f : Int → Int) : ∀ ss : List Int, sm (fun s => f s - 1) ss = sm f ss - ss.length
  | [] => rfl
  | s :: ss => by
    rw [sm_cons, sm_cons, sm_sub1 f ss, List.length_cons]
    omega
/-! ### what fits -/
structure Sh (u : Int) (ss : List Int) : Prop where
  u1 : 0 < u
  nn : ∀ s ∈ ss, 0 ≤ s
  le : ∀ s ∈ ss, s ≤ u
def Fits (u n : Int) (ss : List Int) : Prop := (∀ s ∈ ss, lo (2 * u) n s ≤ min (hi (2 * u) n s) n) ∧ sm (lo (2 * u) n) ss ≤ n ∧ n ≤ sm (fun s => min (hi (2 * u) n s) n) ss
def Adds (u n : Int) (ss : List Int) : Prop := sm (lo (2 * u) n) ss ≤ n ∧ n ≤ sm (hi (2 * u) n) ss
theorem fits_adds {u n : Int} {ss : List Int} (h : Sh u ss) (hn : 1 ≤ n) : Fits u n ss ↔ Adds u n ss := by
  constructor
  · rintro ⟨_, h2, h3⟩
    exact ⟨h2, Int.le_trans h3 (sm_le fun s _ => by omega)⟩
  · rintro ⟨h2, h3⟩
    have l : ∀ s ∈ ss, lo (2 * u) n s ≤ hi (2 * u) n s := by
      by_cases c : u ≤ n
      · exact fun s hs => lo_hi h.u1 hn (h.nn s hs) c
      · have e := sm_eq (f := hi (2 * u) n) (g := lo (2 * u) n) (ss := ss) (fun s hs => hi_lo h.u1 hn (h.nn s hs) (by omega)) (by omega)
        exact fun s hs => by have := e s hs; omega
    refine ⟨fun s hs => ?_, h2, sm_min (by omega) (fun s hs => hi_nn h.u1 hn (h.nn s hs)) h3⟩
    have := l s hs
    have := lo_le h.u1 hn (h.le s hs)
    omega
end Pm
/-! From where on shares fit all numbers; shares that fit multiples only. -/
namespace Pm
theorem sm_lin (f g : Int → Int) (a b : Int) : ∀ ss : List Int, sm (fun s => f s * a + g s * b) ss = sm f ss * a + sm g ss * b
  | [] => by rw [sm_nil, sm_nil, sm_nil, Int.zero_mul, Int.zero_mul] <;> rfl
  | s :: ss => by
    rw [sm_cons, sm_cons, sm_cons, sm_lin f g a b ss, Int.add_mul, Int.add_mul]
    omega
theorem sm_mul (f : Int → Int) (a : Int) (ss : List Int) : sm (fun s => f s * a) ss = sm f ss * a := by
  have := sm_lin f (fun _ => 0) a 0 ss
  simp only [Int.mul_zero, Int.add_zero] at this
  exact this
def pl (s : Int) : Int := if 0 < s then 2 * s - 1 else 0
def ml (s : Int) : Int := if 0 < s then 1 else 0
def bl (s : Int) : Int := 2 * s + 1
theorem lo_ge {t n s : Int} (ht : 0 < t) : pl s * n ≤ lo t n s * t := by
  unfold pl lo
  split
  · exact (up_spec ht n _).1
  · omega
theorem lo_lt {t n s : Int} (ht : 0 < t) : lo t n s * t ≤ pl s * n + ml s * (t - 1) := by
  unfold pl lo ml
  split
  · have := (up_spec ht n (2 * s - 1)).2
    rw [Int.sub_mul, Int.one_mul] at this
    omega
  · omega
theorem hi_ge {t n s : Int} (ht : 0 < t) : bl s * n - t ≤ hi t n s * t := by
  unfold bl hi
  have := (up_spec ht n (2 * s + 1)).1
  rw [Int.sub_mul, Int.one_mul]
  omega
theorem hi_lt {t n s : Int} (ht : 0 < t) : hi t n s * t < bl s * n := (up_spec ht n (2 * s + 1)).2
theorem slo_ge {t n : Int} (ht : 0 < t) (ss : List Int) : sm pl ss * n ≤ sm (lo t n) ss * t := by
  rw [← sm_mul, ← sm_mul]
  exact sm_le fun s _ => lo_ge ht
theorem slo_lt {t n : Int} (ht : 0 < t) (ss : List Int) : sm (lo t n) ss * t ≤ sm pl ss * n + sm ml ss * (t - 1) := by
  rw [← sm_mul, ← sm_lin]
  exact sm_le fun s _ => lo_lt ht
theorem shi_ge {t n : Int} (ht : 0 < t) (ss : List Int) : sm bl ss * n - ss.length * t ≤ sm (hi t n) ss * t := by
  have e := sm_lin bl (fun _ => -1) n t ss
  have l : ∀ l : List Int, sm (fun _ => -1) l = -(l.length : Int) := fun l => by
    induction l with
    | nil => rfl
    | cons x l ih => rw [sm_cons, ih, List.length_cons]; omega
  have e2 : sm (fun s => bl s * n + -1 * t) ss = sm bl ss * n - ss.length * t := by rw [e, l, Int.neg_mul, ← Int.sub_eq_add_neg]
  rw [← e2, ← sm_mul]
  exact sm_le fun s _ => by
    have := hi_ge (t := t) (n := n) (s := s) ht
    omega
theorem shi_lt {t n : Int} (ht : 0 < t) (ss : List Int) : sm (hi t n) ss * t ≤ sm bl ss * n - ss.length := by
  have := sm_le (f := fun s => hi t n s * t) (g := fun s => bl s * n - 1) (ss := ss) fun s _ => by
    have := hi_lt (t := t) (n := n) (s := s) ht
    omega
  rw [sm_mul, sm_sub1, sm_mul] at this
  exact this
theorem div_lt {x d n : Int} (hd : 0 < d) (h : x / d + 1 ≤ n) : x < n * d := by
  have := Int.lt_ediv_add_one_mul_self x hd
  exact Int.lt_of_lt_of_le this (Int.mul_le_mul_of_nonneg_right h (Int.le_of_lt hd))
/-- enough people, by the two rooms -/
theorem adds_from {u n x y : Int} {ss : List Int} (hu : 0 < u) (h0 : sm pl ss < 2 * u) (h1 : 2 * u < sm bl ss) (hx : (sm ml ss - 1) * (2 * u) - sm ml ss ≤ x) (hy : ((ss.length : Int) - 1) * (2 * u) ≤ y)
    (n0 : x / (2 * u - sm pl ss) + 1 ≤ n) (n1 : y / (sm bl ss - 2 * u) + 1 ≤ n) : Adds u n ss := by
  have a := slo_lt (t := 2 * u) (n := n) (by omega) ss
  have b := shi_ge (t := 2 * u) (n := n) (by omega) ss
  have c := div_lt (by omega) n0
  have d := div_lt (by omega) n1
  rw [Int.mul_sub] at c d
  rw [Int.mul_comm n (sm pl ss)] at c
  rw [Int.mul_comm n (sm bl ss)] at d
  rw [Int.sub_mul, Int.one_mul] at hx hy
  rw [Int.mul_sub, Int.mul_one] at a
  constructor
  · refine le_of_mul (t := 2 * u) (by omega) ?_
    rw [Int.add_mul, Int.one_mul]
    omega
  · refine le_of_mul (t := 2 * u) (by omega) ?_
    rw [Int.add_mul, Int.one_mul]
    omega
/-- no number fits where the least parts are too many, or all too few -/
theorem adds_none {u n : Int} {ss : List Int} (hu : 0 < u) (hn : 1 ≤ n) (hk : 0 < ss.length) (h : 2 * u < sm pl ss ∨ sm bl ss ≤ 2 * u) : ¬ Adds u n ss := by
  rintro ⟨h2, h3⟩
  rcases h with h | h
  · have a := slo_ge (t := 2 * u) (n := n) (by omega) ss
    have b : (2 * u) * n < sm pl ss * n := Int.mul_lt_mul_of_pos_right h (by omega)
    have c : sm (lo (2 * u) n) ss * (2 * u) ≤ n * (2 * u) := Int.mul_le_mul_of_nonneg_right h2 (by omega)
    rw [Int.mul_comm n] at c
    omega
  · have a := shi_lt (t := 2 * u) (n := n) (by omega) ss
    have b : sm bl ss * n ≤ (2 * u) * n := Int.mul_le_mul_of_nonneg_right h (by omega)
    have c : n * (2 * u) ≤ sm (hi (2 * u) n) ss * (2 * u) := Int.mul_le_mul_of_nonneg_right h3 (by omega)
    rw [Int.mul_comm n] at c
    omega
/-- multiples: the least parts are just all -/
theorem adds_mult {u n : Int} {ss : List Int} (h : Sh u ss) (hn : 1 ≤ n) (e : sm pl ss = 2 * u) : Adds u n ss ↔ ∀ s ∈ ss, 2 * u ∣ pl s * n := by
  have ht : 0 < 2 * u := by have := h.u1; omega
  constructor
  · rintro ⟨h2, _⟩
    have q : sm (fun s => lo (2 * u) n s * (2 * u)) ss ≤ sm (fun s => pl s * n) ss := by
      rw [sm_mul, sm_mul, e, Int.mul_comm (2 * u) n]
      exact Int.mul_le_mul_of_nonneg_right h2 (by omega)
    intro s hs
    have := sm_eq (f := fun s => pl s * n) (g := fun s => lo (2 * u) n s * (2 * u)) (ss := ss) (fun s _ => lo_ge ht) q s hs
    exact ⟨lo (2 * u) n s, by rw [Int.mul_comm (2 * u)]; exact this⟩
  · intro d
    have eq : ∀ s ∈ ss, lo (2 * u) n s * (2 * u) = pl s * n := fun s hs => by
      obtain ⟨c, hc⟩ := d s hs
      have h1 := lo_ge (t := 2 * u) (n := n) (s := s) ht
      have h2 := lo_lt (t := 2 * u) (n := n) (s := s) ht
      rw [hc, Int.mul_comm (2 * u)] at h1 h2 ⊢
      have : lo (2 * u) n s ≤ c := le_of_mul ht (by
        rw [Int.add_mul, Int.one_mul]
        unfold ml at h2
        split at h2 <;> omega)
      have : c ≤ lo (2 * u) n s := le_of_mul ht (by rw [Int.add_mul, Int.one_mul]; omega)
      rw [show lo (2 * u) n s = c from by omega]
    have q : sm (lo (2 * u) n) ss * (2 * u) = n * (2 * u) := by
      have e' : sm pl ss * n = n * (2 * u) := by rw [e, Int.mul_comm]
      rw [← sm_mul, ← e', ← sm_mul]
      have a := sm_le (f := fun s => lo (2 * u) n s * (2 * u)) (g := fun s => pl s * n) (ss := ss) fun s hs => Int.le_of_eq (eq s hs)
      have b := sm_le (f := fun s => pl s * n) (g := fun s => lo (2 * u) n s * (2 * u)) (ss := ss) fun s hs => Int.le_of_eq (eq s hs).symm
      omega
    have q : sm (lo (2 * u) n) ss = n := Int.eq_of_mul_eq_mul_right (by omega) q
    refine ⟨by omega, ?_⟩
    have : sm (lo (2 * u) n) ss ≤ sm (hi (2 * u) n) ss := sm_le fun s hs => by
      by_cases c : 0 < s
      · have e1 := eq s hs
        unfold lo pl at e1
        rw [if_pos c, if_pos c] at e1
        unfold lo hi
        rw [if_pos c]
        have := lt_up (t := 2 * u) (n := n) (p := 2 * s + 1) (m := up (2 * u) n (2 * s - 1)) ht (by
          rw [e1]
          exact Int.mul_lt_mul_of_pos_right (by omega) (by omega))
        omega
      · have := hi_nn (u := u) (n := n) (s := s) h.u1 hn (h.nn s hs)
        unfold lo
        rw [if_neg c]
        omega
    omega
end Pm
/-! With how many people parts, rounded up, first add up to more: a sorted list of turns. -/
namespace Pm
def tot (t n : Int) (ps : List Int) : Int := sm (up t n) ps
/-- the numbers of people at which one part, rounded up, grows -/
def turn1 (t m p b : Int) : List Int := (List.range (up t m p - b).toNat).map fun i : Nat => (b + (i : Int)) * t / p + 1
def turns (t f m : Int) (ps : List Int) : List Int := ps.flatMap fun p => turn1 t m p (up t (f - 1) p)
theorem turn_le {t p c n : Int} (ht : 0 < t) (hp : 0 < p) : c * t / p + 1 ≤ n ↔ c < up t n p := by
  constructor
  · intro h
    have := Int.lt_ediv_add_one_mul_self (c * t) hp
    refine lt_up ht ?_
    rw [Int.mul_comm p]
    exact Int.lt_of_lt_of_le this (Int.mul_le_mul_of_nonneg_right h (Int.le_of_lt hp))
  · intro h
    have h1 := (up_spec ht n p).2
    have h2 : c * t ≤ (up t n p - 1) * t := Int.mul_le_mul_of_nonneg_right (by omega) (Int.le_of_lt ht)
    have h3 : c * t < n * p := by rw [Int.mul_comm n]; omega
    have := Int.ediv_lt_of_lt_mul hp h3
    omega
theorem cnt_range (k c : Nat) : (List.range k).countP (fun i => decide (i < c)) = min k c := by
  induction k with
  | zero => simp
  | succ k ih =>
    rw [List.range_succ, List.countP_append, ih, List.countP_cons, List.countP_nil]
    by_cases h : k < c
    · rw [if_pos (by simpa using h)]
      omega
    · rw [if_neg (by simpa using h)]
      omega
theorem turn1_cnt {t m p b n : Int} (ht : 0 < t) (hp : 0 < p) (h : up t n p ≤ up t m p) (hb : b ≤ up t n p) : (((turn1 t m p b).countP fun x => decide (x ≤ n) : Nat) : Int) = up t n p - b := by
  unfold turn1
  rw [List.countP_map]
  have e : ((fun x : Int => decide (x ≤ n)) ∘ fun i : Nat => (b + (i : Int)) * t / p + 1) = fun i : Nat => decide (i < (up t n p - b).toNat) := by
    funext i
    show decide ((b + (i : Int)) * t / p + 1 ≤ n) = _
    refine decide_eq_decide.mpr ⟨fun h => ?_, fun h => ?_⟩
    · have := (turn_le ht hp).mp h
      omega
    · exact (turn_le ht hp).mpr (by omega)
  rw [e, cnt_range]
  omega
theorem turns_cnt {t f m n : Int} (ht : 0 < t) (h1 : f - 1 ≤ n) (h2 : n ≤ m) : ∀ {ps : List Int}, (∀ p ∈ ps, 0 < p) → (((turns t f m ps).countP fun x => decide (x ≤ n) : Nat) : Int) = tot t n ps - tot t (f - 1) ps
  | [], _ => rfl
  | p :: ps, h => by
    have ih := turns_cnt ht h1 h2 (ps := ps) fun x hx => h x (.tail _ hx)
    have hp := h p (.head _)
    have e : turns t f m (p :: ps) = turn1 t m p (up t (f - 1) p) ++ turns t f m ps := rfl
    rw [e, List.countP_append]
    unfold tot at *
    rw [sm_cons, sm_cons]
    have := turn1_cnt (t := t) (m := m) (p := p) (b := up t (f - 1) p) (n := n) ht hp (up_mono ht (by omega) h2) (up_mono ht (by omega) h1)
    omega
theorem cnt_sorted : ∀ {l : List Int} {j : Nat} {n : Int}, l.Pairwise (· ≤ ·) → (h : j < l.length) → (l[j] ≤ n ↔ j < l.countP fun x => decide (x ≤ n))
  | x :: l, j, n, hs, h => by
    obtain ⟨hx, hs⟩ := List.pairwise_cons.mp hs
    by_cases c : x ≤ n
    · rw [List.countP_cons_of_pos (by simpa using c)]
      cases j with
      | zero => exact ⟨fun _ => by omega, fun _ => c⟩
      | succ j =>
        have := cnt_sorted (l := l) (j := j) (n := n) hs (by rw [List.length_cons] at h; omega)
        show l[j]'(by rw [List.length_cons] at h; omega) ≤ n ↔ _
        rw [this]
        omega
    · rw [List.countP_cons_of_neg (by simpa using c)]
      have z : l.countP (fun x => decide (x ≤ n)) = 0 := by
        rw [List.countP_eq_zero]
        intro y hy
        have := hx y hy
        simp
        omega
      rw [z]
      refine ⟨fun e => ?_, fun e => absurd e (Nat.not_lt_zero _)⟩
      cases j with
      | zero => exact absurd e c
      | succ j =>
        have e : l[j]'(by rw [List.length_cons] at h; omega) ≤ n := e
        have := hx _ (List.getElem_mem (l := l) (n := j) (by rw [List.length_cons] at h; omega))
        omega
/-- the list that _passing returns, of the sorted turns -/
def passL (ts : List Int) (at_ f b : Int) : List Int := (List.replicate (-at_).toNat 0 ++ ts ++ List.replicate (at_ + b - f).toNat b).drop (max 0 at_).toNat
theorem pass_len {ts : List Int} {at_ f b : Int} : b - f ≤ (passL ts at_ f b).length := by
  unfold passL
  rw [List.length_drop, List.length_append, List.length_append, List.length_replicate, List.length_replicate]
  omega
theorem pass_at {t f b over : Int} {ps ts : List Int} (ht : 0 < t) (hps : ∀ p ∈ ps, 0 < p) (hf : 1 ≤ f) (perm : ts.Perm (turns t f (b - 1) ps)) (srt : ts.Pairwise (· ≤ ·)) {i : Nat} (hi : f + i < b) :
    ∃ x, (passL ts (f + over - tot t (f - 1) ps) f b)[i]? = some x ∧ (x ≤ f + i ↔ f + i + over < tot t (f + i) ps) := by
  have cn := turns_cnt (t := t) (f := f) (m := b - 1) (n := f + i) ht (by omega) (by omega) hps
  have ce : (turns t f (b - 1) ps).countP (fun x => decide (x ≤ f + i)) = ts.countP fun x => decide (x ≤ f + i) := (perm.countP_eq _).symm
  rw [ce] at cn
  have cl : ts.countP (fun x => decide (x ≤ f + i)) ≤ ts.length := List.countP_le_length
  generalize hA : f + over - tot t (f - 1) ps = A
  unfold passL
  rw [List.getElem?_drop]
  by_cases c : (max 0 A).toNat + i < (-A).toNat
  · refine ⟨0, ?_, ?_⟩
    · rw [List.append_assoc, List.getElem?_append_left (by rw [List.length_replicate]; exact c), List.getElem?_replicate, if_pos c]
    · exact ⟨fun _ => by omega, fun _ => by omega⟩
  · have hj : ∃ j : Nat, (max 0 A).toNat + i = (-A).toNat + j ∧ (j : Int) = A + i := ⟨((max 0 A).toNat + i) - (-A).toNat, by omega, by omega⟩
    obtain ⟨j, e, ej⟩ := hj
    rw [e, List.append_assoc, List.getElem?_append_right (by rw [List.length_replicate]; omega), List.length_replicate, Nat.add_sub_cancel_left]
    by_cases d : j < ts.length
    · refine ⟨ts[j], by rw [List.getElem?_append_left d, List.getElem?_eq_getElem d], ?_⟩
      rw [cnt_sorted srt d]
      omega
    · refine ⟨b, ?_, ?_⟩
      · rw [List.getElem?_append_right (by omega), List.getElem?_replicate, if_pos (by omega)]
      · exact ⟨fun _ => by omega, fun _ => by omega⟩
end Pm
/-! a list times an int of any size, a negative one too. -/
namespace Py
open PySem PySem.Spec PyProof.Rows L2 Tc Px
section
variable {B : Bas} {X : Cx} {Γ : List Sl} {pos : Pos} {a b : Expr} {φ : List PyData → List Sl → Prop}
theorem gf_repZ (h : GF B X a Γ fun ds Γ1 => ∀ B' : Bas, Same B.fr B'.fr → Grow B.fr B.hs B'.hs → GE B' X b Γ1 fun d Γ2 => ∃ k : Int, d = .int k ∧ (-1000000000 ≤ k ∧ k ≤ 1000000000) ∧ ds.length * k.toNat ≤ sizeLine ∧ φ (List.replicate k.toNat ds).flatten Γ2) : GF B X (.BinOp a .Mult b pos) Γ φ := fun Hs σ H Q S g =>
  pe_of (pe_op op_rep pe_W pe_W) (h Hs σ H _ S fun ds Γ1 p vs Hs1 H1 hB s1 S1 f n al hp dv => by
    have SB := S1.hold hp n f al
    refine hB ⟨upd B.fr p (.lst vs), Hs1, B.T⟩ (Same.new f) S1.gr Hs1 σ H1 _ SB fun d Γ2 v2 Hs2 H2 ⟨k, e, hk, hl, hφ⟩ s2 S2 q2 => ?_
    subst e
    cases q2
    obtain ⟨Sb, hb, nb, ab⟩ := S2.loose S1.gr f n
    have z : vs.length * k.toNat ≤ sizeLine := by
      rw [dv.len]
      exact hl
    refine ⟨p, k, vs, rfl, rfl, hb, by omega, by omega, z, fun q hq => ?_⟩
    obtain ⟨f2, n2, al2⟩ := alone_new Sb hq
    exact g _ Γ2 q _ Hs2 _ hφ (s1.trans s2) (Sb.aside hq) f2 n2 al2 upd_same (dvs_rep (dv.mono s2) _))
end
theorem rep_ints (d : PyData) : ∀ n : Nat, (List.replicate n [d]).flatten = List.replicate n d
  | 0 => rfl
  | n + 1 => by
    rw [List.replicate_succ, List.flatten_cons, rep_ints d n, List.replicate_succ] <;> rfl
end Py
/-! set(xs), xs a list of ints: of any length below the scan's bound. -/
namespace Tc
open PySem PySem.Spec PyProof.Rows L2
section
variable {P : Program} {w : World} {A : Around} {E : Value → Shared → Prop} {s : Shared}
/-- an empty set's object, just made -/
abbrev emptyS (w : World) : Obj := { cls := .type "set", dict := none, data := .set #[] 0 (.fresh 0 0 (!w.params.followText "set-order")) }
/-- what is known behind the set's filling -/
abbrev SetMade (w : World) (s : Shared) (S : Addr) (ns : List Int) (v : Value) (s2 : Shared) : Prop :=
  v = .none ∧ ∃ h2 tk c, s2 = { s with heap := h2, toks := tk } ∧ SetR w h2 S (fun j => decide (j ∈ ns)) c ∧ c ≤ ns.length ∧ ∀ b o, s.heap.get? b = some o → h2.get? b = some o
theorem set_fill_list {l : Addr} {items : Array Value} (ns : List Int) (calm : A.handled = none) (isl : s.heap.IsList l items) (hit : IntsAre items.toList ns) (room : ns.length + 1 < scanBound) :
    codeAny (model P w) A (.call (.builtin "set.__init__") ⟨[.ref s.heap.objs.size, .ref l], []⟩) (wants (SetMade w s s.heap.objs.size ns) E) { s with heap := s.heap.push (emptyS w) } := by
  generalize eS : s.heap.objs.size = S
  have atS : (s.heap.push (emptyS w)).get? S = some (emptyS w) := by
    rw [← eS]
    exact Heap.get?_push_size _ rfl
  have tyS : Shared.TypeIs { s with heap := s.heap.push (emptyS w) } (.ref S) "set" := ⟨_, atS, rfl⟩
  have count : items.size = ns.length := by
    have q := IntsAre.length hit
    rw [Array.length_toList] at q
    exact q
  refine codeAny_call_builtin F.called_set.init.plain F.entry_set_init (check_set_init_1 tyS ?_)
  obtain ⟨ol, atL, cL, nl, dL⟩ := id isl
  have ltL : l < S := by
    rw [← eS]
    exact Heap.lt_size atL
  obtain ⟨_, dictL, dataL, slotsL⟩ := ol
  simp only at cL dL
  subst cL
  subst dL
  have atL1 : (s.heap.push (emptyS w)).get? l = some { cls := .type "list", dict := dictL, data := .seq items nl, slots := slotsL } := Heap.get?_push_of_some _ atL
  have isl1 : (s.heap.push (emptyS w)).IsList l items := ⟨_, atL1, rfl, nl, rfl⟩
  have f1 := F.sub_list_set
  have f2 := F.sub_list_frozenset
  have f3 : (Value.type "list" == Value.type "dict") = false := by decide
  unfold Builtin.«set.__init__» noKeywords Builtin.Frozenset.updateFrom
  generalize ePI : pyIter = PI
  wp_walk
  subst ePI
  refine wpAny_pyIter_list isl1 (wpAny_bind (wpAny_runValue ?_))
  generalize eI : (s.heap.push (emptyS w)).objs.size = I
  have sI : I = S + 1 := by
    rw [← eI, Heap.size_push, eS]
  have out : S ∉ [I, l] := fun m => by
    simp only [List.mem_cons, List.not_mem_nil, or_false] at m
    rcases m with m | m
    · exact absurd m (by rw [sI]; exact Nat.ne_of_lt (Nat.lt_succ_self S))
    · exact absurd m (Nat.ne_of_gt ltL)
  have neI : l ≠ I := by
    rw [sI]
    exact Nat.ne_of_lt (Nat.lt_succ_of_lt ltL)
  have vals : ∀ (i : Nat) (v : Value), items[i]? = some v → ∃ k t, ns[i]? = some k ∧ v = .int k t := fun i v hv => by
    have hi : i < ns.length := by
      rw [← count]
      exact (Array.getElem?_eq_some_iff.mp hv).1
    obtain ⟨t, e⟩ := IntsAre.int_at hit i v (by rw [Array.getElem?_toList]; exact hv)
    refine ⟨ns[i], t, List.getElem?_eq_getElem hi, ?_⟩
    rw [e, List.getD_eq_getElem?_getD, List.getElem?_eq_getElem hi] <;> rfl
  subst eI
  refine set_update_ints ((Walks.list (by simp [calm]) _ l neI items).toS) S out ns count room vals (items.size - 0) 0 _ (by omega) (Nat.zero_le _) ⟨⟨_, Heap.get?_push_size _ rfl, rfl, rfl⟩, isl1.push _⟩ ⟨0, Nat.le_refl 0, setR_new_at (Heap.get?_push_of_some _ atS)⟩ fun s2 c2 mv hc2 R2 => ?_
  obtain ⟨h2, g2, d2, tk2, os2⟩ := s2
  obtain rfl : g2 = s.gens := mv.gens
  obtain rfl : d2 = s.drawn := mv.drawn
  obtain rfl : os2 = s.os := mv.os
  refine wpAny_pure (wpAny_pure ⟨rfl, h2, tk2, c2, rfl, R2, by rw [← count]; exact hc2, fun b o e => ?_⟩)
  have lb : b < S := by
    rw [← eS]
    exact Heap.lt_size e
  exact mv.heap b o (fun m => by
    simp only [List.mem_cons, List.not_mem_nil, or_false] at m
    rcases m with m | m
    · exact absurd m (Nat.ne_of_lt lb)
    · exact absurd m (by rw [sI]; exact Nat.ne_of_lt (Nat.lt_succ_of_lt lb))) (Heap.get?_push_of_some _ (Heap.get?_push_of_some _ e))
theorem call_set_ints {l : Addr} {items : Array Value} (ns : List Int) {Q : Value → Shared → Prop} (calm : A.handled = none) (isl : s.heap.IsList l items) (hit : IntsAre items.toList ns) (room : ns.length + 1 < scanBound)
    (h : ∀ (h2 : Heap) (tk c : Nat), SetR w h2 s.heap.objs.size (fun j => decide (j ∈ ns)) c → c ≤ ns.length → (∀ b o, s.heap.get? b = some o → h2.get? b = some o) → Q (.ref s.heap.objs.size) { s with heap := h2, toks := tk }) :
    wpAny (model P w) A (call (.type "set") [.ref l]) Q E s := by
  obtain ⟨c, tl, f0⟩ := F.called_set.mro
  have f1 := F.called_set.made
  have f2 := F.called_set.sub
  refine wpAny_call (codeAny_of_tree ?_)
  show wpAny _ _ (callAny (.type "set") _) _ _ _
  refine wpAny_pure ⟨Code.quiet_builtin _ (by decide +kernel), codeAny_builtin F.entry_type_call ?_⟩
  rw [Around.under_plain (weight_type_call_type "set" [.ref l] []) rfl]
  have f3 := F.called_set.notType
  have f4 := F.called_set.canCreate
  have f5 := F.typeCall_set_1 (.ref l)
  repeat (any_goals (first | assumption | wp_step))
  refine codeAny_mono (code_set_led1 (.ref l) (E := E) (Q₁ := fun v s1 => v = .ref s.heap.objs.size ∧ s1 = { s with heap := s.heap.push (emptyS w) }) ⟨rfl, rfl⟩) fun r s1 hr => ?_
  cases r with
  | error e => exact hr
  | ok fl =>
    cases fl with
    | ret obj =>
      obtain ⟨rfl, rfl⟩ := hr
      have tyS : Shared.TypeIs { s with heap := s.heap.push (emptyS w) } (.ref s.heap.objs.size) "set" := ⟨_, Heap.get?_push_size _ rfl, rfl⟩
      have f6 := F.called_set.init.lookup
      have f7 := F.called_set.init.bind (.ref s.heap.objs.size)
      repeat (any_goals (first | assumption | wp_step))
      refine codeAny_mono (set_fill_list (E := E) ns (by simp [calm]) isl hit room) fun r2 s2 hr2 => ?_
      cases r2 with
      | error e => exact hr2
      | ok fl2 =>
        cases fl2 with
        | ret r =>
          obtain ⟨rfl, h2, tk, c2, rfl, R2, hc2, hk⟩ := hr2
          repeat (any_goals (first | assumption | wp_step))
          exact h _ _ _ R2 hc2 hk
        | _ => exact hr2.elim
    | _ => exact hr.elim
end
section
variable {X : Cx}
/-- set(xs), xs a list of ints -/
def rSetL (X : Cx) : List V → Hp → VK → Prop := fun xs H Q => ∃ (a : Addr) (ns : List Int), xs = [.ref a] ∧ SqL X.K H a (ns.map V.int) ∧ ns.length + 1 < scanBound ∧ ∀ (p : Addr) (c : Nat) (L : List Int), H p = none → L.Nodup → L.length = c → (∀ k, k ∈ L ↔ k ∈ ns) → Q (.ref p) (upd H p (SetO X.w p (fun j => decide (j ∈ ns)) c))
theorem cr_setL (calm : X.calm = true) : CallR X (.type "set") (rSetL X) := by
  intro pins s σ H xs us Q I r h
  obtain ⟨a, ns, rfl, hs, room, q⟩ := h
  rw [Vals.ref1 r]
  obtain ⟨its, rv, pl, hz⟩ := I.list hs
  refine call_set_ints ns (I.ok.hd calm) pl.isList (by simpa using ints_vals rv) room fun h2 tk c R hc k => ?_
  refine ⟨.ref _, upd H s.heap.objs.size (SetO X.w s.heap.objs.size (fun j => decide (j ∈ ns)) c), I.laid (t' := tk) k (Nat.le_refl _) (setO_new R), rfl, ?_⟩
  obtain ⟨_, es, _, _, _, _, _, _, nod, mem, _, _, cnt, _⟩ := R
  exact q _ c (es.toList.map keyOf) (I.hok.fresh (Nat.le_refl _)) nod (by rw [List.length_map, Array.length_toList]; exact cnt) fun k => ⟨fun m => of_decide_eq_true ((mem k).mpr m), fun m => (mem k).mp (decide_eq_true m)⟩
end
end Tc
/-! sets of ints: walked within a call, differences, what they have in common -/
namespace Tc
open PySem PySem.Spec PyProof.Rows L2
/-- a set of ints as it stands -/
structure Ent (w : World) (h : Heap) (a : Addr) (es : Array (Int × Value)) (ep : Nat) (t : SetTable) : Prop where
  at_ : ∃ o, h.get? a = some o ∧ o.ExactSet ∧ o.data = .set es ep t
  good : ∀ e ∈ es.toList, GoodE e
  nod : (es.toList.map keyOf).Nodup
  few : es.size < scanBound
  fit : t.fits es.size = true
  ris : Ris t.place.toList
  led : w.params.followText "set-order" = true ∨ t.led = true
theorem Ent.of {w : World} {h : Heap} {a : Addr} {S : Int → Bool} {n : Nat} (R : SetR w h a S n) : ∃ es ep t, Ent w h a es ep t ∧ (∀ k, S k = true ↔ k ∈ es.toList.map keyOf) ∧ es.size = n := by
  obtain ⟨o, es, ep, t, ho, hex, hd, g, nd, hm, hb, hf, hn, hr, hl⟩ := R
  exact ⟨es, ep, t, ⟨⟨o, ho, hex, hd⟩, g, nd, hb, hf, hr, hl⟩, hm, hn⟩
theorem Ent.is {w : World} {h : Heap} {a : Addr} {es : Array (Int × Value)} {ep : Nat} {t : SetTable} {S : Int → Bool} (R : Ent w h a es ep t) (hm : ∀ k, S k = true ↔ k ∈ es.toList.map keyOf) : SetR w h a S es.size := by
  obtain ⟨⟨o, ho, hex, hd⟩, g, nd, hb, hf, hr, hl⟩ := R
  exact ⟨o, es, ep, t, ho, hex, hd, g, nd, hm, hb, hf, rfl, hr, hl⟩
theorem Ent.mono {w : World} {h h' : Heap} {a : Addr} {es : Array (Int × Value)} {ep : Nat} {t : SetTable} (R : Ent w h a es ep t) (k : ∀ o, h.get? a = some o → h'.get? a = some o) : Ent w h' a es ep t := by
  obtain ⟨⟨o, ho, hex, hd⟩, g, nd, hb, hf, hr, hl⟩ := R
  exact ⟨⟨o, k o ho, hex, hd⟩, g, nd, hb, hf, hr, hl⟩
section
variable {P : Program} {w : World} {A : Around} {E : Value → Shared → Prop} {s : Shared}
theorem Ent.state {a : Addr} {es : Array (Int × Value)} {ep : Nat} {t : SetTable} {Q : (Array (Int × Value) × Nat × SetTable) → Shared → Prop} (R : Ent w s.heap a es ep t) (h : Q (es, ep, t) s) : wpAny (model P w) A (setState a) Q E s := by
  obtain ⟨o, ho, hex, hd⟩ := R.at_
  exact wpAny_setState_of ho hd R.fit h
theorem Ent.entries {a : Addr} {es : Array (Int × Value)} {ep : Nat} {t : SetTable} {Q : Array (Int × Value) → Shared → Prop} (R : Ent w s.heap a es ep t) (h : Q es s) : wpAny (model P w) A (setEntries a) Q E s := by
  obtain ⟨o, ho, hex, hd⟩ := R.at_
  exact wpAny_setEntries_of ho hd R.fit h
theorem Ent.epoch {a : Addr} {es : Array (Int × Value)} {ep : Nat} {t : SetTable} {Q : Nat → Shared → Prop} (R : Ent w s.heap a es ep t) (h : Q ep s) : wpAny (model P w) A (setEpoch a) Q E s := by
  obtain ⟨o, ho, hex, hd⟩ := R.at_
  exact wpAny_setEpoch_of ho hd R.fit h
theorem quiet_sets {Q : Bool → Shared → Prop} (l : List Addr) (hl : ∀ a ∈ l, ∃ es ep t, Ent w s.heap a es ep t) (h : Q true s) : wpAny (model P w) A (setsQuiet l) Q E s := by
  unfold setsQuiet
  refine wpAny_bind (wpAny_forIn_list _ (fun rest b s' => b.1 = none ∧ s' = s ∧ ∀ a ∈ rest, a ∈ l) _ ?_ ?_ l _ ⟨rfl, rfl, fun a h => h⟩)
  · rintro a rest ⟨b1, b2⟩ s' ⟨hb, rfl, hm⟩
    obtain ⟨es, ep, t, R⟩ := hl a (hm a (.head _))
    simp only at hb
    subst hb
    refine wpAny_bind (R.entries ?_)
    refine wpAny_bind (MeetsSeq2.wpAny_forIn_array _ (fun rest b s2 => b.1 = none ∧ s2 = s' ∧ ∀ e ∈ rest, e ∈ es.toList) _ ?_ ?_ es _ ⟨rfl, rfl, fun a h => h⟩)
    · rintro ⟨e1, e2⟩ rest2 ⟨b1, b3⟩ s2 ⟨hb, rfl, hm2⟩
      obtain ⟨k, tk, q, _⟩ := R.good _ (hm2 _ (.head _))
      simp only at hb q
      subst hb
      subst q
      exact wpAny_pure ⟨rfl, rfl, fun x hx => hm2 x (.tail _ hx)⟩
    · rintro ⟨b1, b3⟩ s2 ⟨hb, rfl, _⟩
      simp only at hb
      subst hb
      exact wpAny_pure ⟨rfl, rfl, fun x hx => hm x (.tail _ hx)⟩
  · rintro ⟨b1, b3⟩ s2 ⟨hb, rfl, _⟩
    simp only at hb
    subst hb
    exact wpAny_pure h
theorem walk_set {a : Addr} {es : Array (Int × Value)} {ep : Nat} {t : SetTable} {Q : Array (Int × Value) → Shared → Prop} (R : Ent w s.heap a es ep t) (hp : w.params.followText "set-order" = true ∨ t.plain = true ∨ es.size ≤ 1)
    (h : ∀ out : Array (Int × Value), out.toList.Perm es.toList → Q out s) : wpAny (model P w) A (setWalk a) Q E s := by
  unfold setWalk
  refine wpAny_bind (R.state ?_)
  dsimp only
  refine wpAny_bind (wpAny_byText ?_)
  by_cases hb : w.params.followText "set-order" = true
  · refine wp_if_pos hb ?_
    exact wpAny_bind (wpAny_askSetting (wpAny_pure (h _ (pick_perm _ _))))
  · refine wp_if_neg hb ?_
    try refine wpAny_bind (wpAny_pure ?_)
    refine wp_if_neg ?_ ?_
    · show ¬ ((!t.plain && decide (es.size > 1)) = true)
      rcases hp with z | z | z
      · exact absurd z hb
      · rw [z]
        simp
      · rw [decide_eq_false (by omega)]
        simp
    try refine wpAny_bind (wpAny_pure ?_)
    refine wpAny_bind (wpAny_of_eq (a := ()) ?_ ?_)
    · show (if (!t.led && decide (es.size > 1)) = true then unsupported "set:maker-not-led" else pure ()) = pure ()
      rw [R.led.resolve_left hb] <;> rfl
    · exact wpAny_pure (h es (List.Perm.refl _))
theorem walk_none {a : Addr} {es : Array (Int × Value)} {ep : Nat} {t : SetTable} {others : List Addr} {Q : Array (Int × Value) → Shared → Prop} (R : Ent w s.heap a es ep t) (ho : ∀ b ∈ others, ∃ es ep t, Ent w s.heap b es ep t)
    (h : ∀ out : Array (Int × Value), out.toList.Perm es.toList → Q out s) : wpAny (model P w) A (setWalkUnseen a others none) Q E s := by
  unfold setWalkUnseen
  refine wpAny_bind (R.state ?_)
  dsimp only
  refine wpAny_bind (wpAny_byText ?_)
  by_cases hc : (w.params.followText "set-order" || t.led && t.plain || decide (es.size ≤ 1)) = true
  · refine wp_if_pos hc ?_
    refine walk_set R ?_ h
    rw [Bool.or_eq_true, Bool.or_eq_true, Bool.and_eq_true, decide_eq_true_eq] at hc
    exact hc.elim (fun z => z.elim .inl fun z => .inr (.inl z.2)) fun z => .inr (.inr z)
  · refine wp_if_neg hc ?_
    try refine wpAny_bind (wpAny_pure ?_)
    refine wpAny_bind (quiet_sets (a :: others) (fun b hb => ?_) ?_)
    · rcases List.mem_cons.mp hb with rfl | hb
      · exact ⟨_, _, _, R⟩
      · exact ho b hb
    refine wp_if_neg (by simp) ?_
    try refine wpAny_bind (wpAny_pure ?_)
    refine wpAny_bind (wpAny_rule ?_)
    exact wpAny_pure (h es (List.Perm.refl _))
theorem walk_some {a f : Addr} {es ef : Array (Int × Value)} {ep epf : Nat} {t tf : SetTable} {others : List Addr} {Q : Array (Int × Value) → Shared → Prop} (R : Ent w s.heap a es ep t) (F : Ent w s.heap f ef epf tf) (ho : ∀ b ∈ others, ∃ es ep t, Ent w s.heap b es ep t)
    (h : ∀ (out : Array (Int × Value)) (h' : Heap) (ep2 : Nat) (t2 : SetTable), out.toList.Perm es.toList → Heap.SameBut f s.heap h' → Ent w h' f ef ep2 t2 → Q out { s with heap := h' }) : wpAny (model P w) A (setWalkUnseen a others (some f)) Q E s := by
  unfold setWalkUnseen
  refine wpAny_bind (R.state ?_)
  dsimp only
  refine wpAny_bind (wpAny_byText ?_)
  have h0 : ∀ out : Array (Int × Value), out.toList.Perm es.toList → Q out s := fun out p => h out s.heap epf tf p (Heap.SameBut.refl _ _) F
  by_cases hc : (w.params.followText "set-order" || t.led && t.plain || decide (es.size ≤ 1)) = true
  · refine wp_if_pos hc ?_
    refine walk_set R ?_ h0
    rw [Bool.or_eq_true, Bool.or_eq_true, Bool.and_eq_true, decide_eq_true_eq] at hc
    exact hc.elim (fun z => z.elim .inl fun z => .inr (.inl z.2)) fun z => .inr (.inr z)
  · refine wp_if_neg hc ?_
    try refine wpAny_bind (wpAny_pure ?_)
    refine wpAny_bind (quiet_sets (a :: others) (fun b hb => ?_) ?_)
    · rcases List.mem_cons.mp hb with rfl | hb
      · exact ⟨_, _, _, R⟩
      · exact ho b hb
    refine wp_if_neg (by simp) ?_
    try refine wpAny_bind (wpAny_pure ?_)
    refine wpAny_bind (wpAny_rule ?_)
    try dsimp only
    refine wpAny_bind (F.state ?_)
    dsimp only
    by_cases hd : (tf.led && !t.led || tf.plain && !t.plain) = true
    · refine wp_if_pos hd ?_
      obtain ⟨o, hfo, hex, hdt⟩ := F.at_
      refine wpAny_bind (wpAny_storeSet_of hfo hdt ?_ (fits_of_scanBound F.few))
      have hb : ¬ w.params.followText "set-order" = true := fun z => hc (by rw [z] <;> rfl)
      exact wpAny_pure (h es _ _ _ (List.Perm.refl _) (Heap.SameBut.update _ _ _) ⟨⟨_, store_at (es' := ef) (t' := { tf with led := tf.led && t.led, plain := tf.plain && t.plain }) hfo hdt, hex, rfl⟩, F.good, F.nod, F.few, F.fit, F.ris, .inr (by show (tf.led && t.led) = true; rw [F.led.resolve_left hb, R.led.resolve_left hb] <;> rfl)⟩)
    · refine wp_if_neg hd ?_
      try refine wpAny_bind (wpAny_pure ?_)
      exact wpAny_pure (h0 es (List.Perm.refl _))
theorem Ent.tyIs {a : Addr} {es : Array (Int × Value)} {ep : Nat} {t : SetTable} (R : Ent w s.heap a es ep t) : s.TypeIs (.ref a) "set" := by
  obtain ⟨o, ho, hex, hd⟩ := R.at_
  exact ⟨o, ho, hex.1⟩
theorem any_set {a : Addr} {es : Array (Int × Value)} {ep : Nat} {t : SetTable} {Q : Bool → Shared → Prop} (R : Ent w s.heap a es ep t) (h : Q true s) : wpAny (model P w) A (Builtin.Frozenset.isAnySet (.ref a)) Q E s := by
  unfold Builtin.Frozenset.isAnySet orM
  refine wpAny_bind (wpAny_isInstance (b := true) R.tyIs sub_set_self ?_)
  exact wpAny_pure h
theorem base_of {a : Addr} {es : Array (Int × Value)} {ep : Nat} {t : SetTable} {Q : Value → Shared → Prop} (R : Ent w s.heap a es ep t) (h : Q (.type "set") s) : wpAny (model P w) A (Builtin.Frozenset.baseOf a) Q E s := by
  unfold Builtin.Frozenset.baseOf
  refine wpAny_bind (wpAny_isInstance (b := true) R.tyIs sub_set_self ?_)
  exact wpAny_pure h
theorem size_of {a : Addr} {es : Array (Int × Value)} {ep : Nat} {t : SetTable} {Q : Nat → Shared → Prop} (R : Ent w s.heap a es ep t) (h : Q es.size s) : wpAny (model P w) A (Builtin.Frozenset.sizeOf a) Q E s := by
  unfold Builtin.Frozenset.sizeOf
  exact wpAny_bind (R.entries (wpAny_pure h))
theorem same_epoch {id : String} {a : Addr} {es : Array (Int × Value)} {ep : Nat} {t : SetTable} {Q : Unit → Shared → Prop} (R : Ent w s.heap a es ep t) (h : Q () s) : wpAny (model P w) A (Builtin.Frozenset.unchanged id a ep) Q E s := by
  unfold Builtin.Frozenset.unchanged
  refine wpAny_bind (R.epoch ?_)
  refine wp_if_neg (by simp) ?_
  exact wpAny_pure h
/-- the table of a set just made -/
abbrev newT (w : World) : SetTable := .fresh 0 0 (!w.params.followText "set-order")
theorem new_set {Q : Value → Shared → Prop} (h : ∀ h', Ent w h' s.heap.objs.size #[] 0 (newT w) → (∀ b o, s.heap.get? b = some o → h'.get? b = some o) → Q (.ref s.heap.objs.size) { s with heap := h' }) : wpAny (model P w) A (newSet (.type "set")) Q E s := by
  unfold newSet
  refine wpAny_bind (wpAny_byText ?_)
  dsimp only
  simp only [newObj]
  refine wpAny_bind (wpAny_alloc (wpAny_pure (h _ ⟨⟨_, Heap.get?_push_size _ rfl, ⟨rfl, rfl, rfl⟩, rfl⟩, fun e he => by simp at he, by simp, by decide, rfl, by exact List.Pairwise.nil, ?_⟩ fun b o e => Heap.get?_push_of_some _ e)))
  show _ ∨ (!w.params.followText "set-order") = true
  cases w.params.followText "set-order" <;> simp
theorem good_key {e : Int × Value} (g : GoodE e) : ∃ tk, e = ((intKind P w).hash (keyOf e), Value.int (keyOf e) tk) := by
  obtain ⟨k, tk, h1, h2⟩ := g
  obtain ⟨a, b⟩ := e
  simp only at h1 h2
  subst h1 h2
  exact ⟨tk, rfl⟩
/-- the new set while another one is walked: what has come so far, and is let by f -/
def Half (w : World) (s : Shared) (out : List (Int × Value)) (f : Int → Prop) (rest : List (Int × Value)) (_ : PUnit) (s' : Shared) : Prop :=
  ∃ done h' c S, out = done ++ rest ∧ s' = { s with heap := h' } ∧ (∀ b ob, s.heap.get? b = some ob → h'.get? b = some ob) ∧ SetR w h' s.heap.objs.size S c ∧ c ≤ done.length ∧ ∀ k, S k = true ↔ k ∈ done.map keyOf ∧ f k
/-- one turn: what stands in o, or what doesn't, comes into the new set -/
theorem half_turn {K0 : Option Nat → Sem Unit} {a o : Addr} {ea eo : Array (Int × Value)} {epa epo : Nat} {ta to : SetTable} {out rest : List (Int × Value)} {e : Int × Value} {b : PUnit} {s' : Shared} {neg : Bool} {f : Int → Prop} {Q : Unit → Shared → Prop} (A0 : Ent w s.heap a ea epa ta) (O : Ent w s.heap o eo epo to) (g : GoodE e) (few : out.length < scanBound)
    (hI : Half w s out f (e :: rest) b s') (hf : ∀ k, f k ↔ decide (k ∈ eo.toList.map keyOf) = neg)
    (hK : ∀ (r : Option Nat), (r.isSome = neg → K0 r = (do let _ ← setAddHashed s.heap.objs.size e.2 e.1; pure ())) ∧ (¬ r.isSome = neg → K0 r = pure ()))
    (hQ : ∀ h3, Ent w h3 a ea epa ta → Half w s out f rest b { s with heap := h3 } → Q () { s with heap := h3 }) :
    wpAny (model P w) A (do
      let r ← setFind o e.2 e.1
      K0 r) Q E s' := by
  obtain ⟨done, h', c, S, eq, rfl, kk, SR, lc, mem⟩ := hI
  obtain ⟨tk, q⟩ := good_key (P := P) (w := w) g
  generalize hk : keyOf e = k at q
  subst q
  have O2 := O.mono (h' := h') (kk o)
  have SO : SetR w h' o (fun k => decide (k ∈ eo.toList.map keyOf)) eo.size := O2.is fun k => by rw [decide_eq_true_eq]
  have ln : done.length + 1 ≤ out.length := by
    rw [eq, List.length_append, List.length_cons]
    omega
  have hm : ∀ k', k' ∈ (done ++ [((intKind P w).hash k, Value.int k tk)]).map keyOf ↔ k' ∈ done.map keyOf ∨ k' = k := fun k' => by
    rw [List.map_append, List.mem_append, List.map_singleton, List.mem_singleton, hk]
  dsimp only at hK
  have fin : ∀ (h3 : Heap) (S3 : Int → Bool) (c3 : Nat), (∀ b ob, s.heap.get? b = some ob → h3.get? b = some ob) → SetR w h3 s.heap.objs.size S3 c3 → c3 ≤ done.length + 1 → (∀ k', S3 k' = true ↔ (k' ∈ done.map keyOf ∨ k' = k) ∧ f k') →
      Q () { s with heap := h3 } := fun h3 S3 c3 k3 R3 l3 m3 =>
    hQ h3 (A0.mono (h' := h3) (k3 a)) ⟨done ++ [_], h3, c3, S3, by rw [eq, List.append_assoc] <;> rfl, rfl, k3, R3, by rw [List.length_append, List.length_singleton]; exact l3, fun k' => by rw [hm, m3]⟩
  dsimp only
  refine wpAny_bind (wpAny_setFind_of (knd := intKind P w) (k := k) (x := .int k tk) (s := { s with heap := h' }) (intKind_is P w k tk) rfl SO.setOf fun r hr => ?_)
  by_cases c1 : decide (k ∈ eo.toList.map keyOf) = neg
  · rw [(hK r).1 (hr.trans c1)]
    refine wpAny_bind (setR_add_hashed (k := k) (tk := tk) (s := { s with heap := h' }) SR (by omega) fun h3 sb3 R3 => ?_)
    refine wpAny_pure (fin h3 _ _ (fun b ob e => (sb3.2 b (Nat.ne_of_lt (Heap.lt_size e))).trans (kk b ob e)) R3 (by split <;> omega) fun k' => ?_)
    rw [Bool.or_eq_true, decide_eq_true_eq, mem k']
    constructor
    · rintro (⟨x, y⟩ | rfl)
      · exact ⟨.inl x, y⟩
      · exact ⟨.inr rfl, (hf _).mpr c1⟩
    · rintro ⟨x | rfl, y⟩
      · exact .inl ⟨x, y⟩
      · exact .inr rfl
  · rw [(hK r).2 (fun z => c1 (hr.symm.trans z))]
    refine wpAny_pure (fin h' S c kk SR (by omega) fun k' => ?_)
    rw [mem k']
    constructor
    · rintro ⟨x, y⟩
      exact ⟨.inl x, y⟩
    · rintro ⟨x | rfl, y⟩
      · exact ⟨x, y⟩
      · exact absurd ((hf _).mp y) c1
/-- s - o where s is not much larger -/
theorem diff_new {id : String} {a o : Addr} {es eo : Array (Int × Value)} {ep epo : Nat} {t to : SetTable} {Q : Value → Shared → Prop} (R : Ent w s.heap a es ep t) (O : Ent w s.heap o eo epo to) (big : ¬ es.size / 4 > eo.size)
    (h : ∀ h' c S, SetR w h' s.heap.objs.size S c → (∀ k, S k = true ↔ k ∈ es.toList.map keyOf ∧ k ∉ eo.toList.map keyOf) → c ≤ es.size → (∀ b o, s.heap.get? b = some o → h'.get? b = some o) → Q (.ref s.heap.objs.size) { s with heap := h' }) : wpAny (model P w) A (Builtin.Frozenset.difference id a (.ref o)) Q E s := by
  unfold Builtin.Frozenset.difference
  dsimp only
  refine wpAny_bind (any_set O ?_)
  refine wp_if_neg (by simp) ?_
  try refine wpAny_bind (wpAny_pure ?_)
  unfold Builtin.Frozenset.addrOf
  try refine wpAny_bind (wpAny_pure ?_)
  refine wp_if_neg (by simp) ?_
  try refine wpAny_bind (wpAny_pure ?_)
  try simp only [↓reduceIte]
  refine wpAny_bind (size_of O ?_)
  refine wpAny_bind (size_of R ?_)
  refine wp_if_neg big ?_
  try refine wpAny_bind (wpAny_pure ?_)
  refine wpAny_bind (base_of R ?_)
  refine wpAny_bind (new_set fun h1 N1 k1 => ?_)
  refine wpAny_bind (wpAny_pure ?_)
  have R1 := R.mono (h' := h1) (k1 a)
  have O1 := O.mono (h' := h1) (k1 o)
  refine wpAny_bind (Ent.epoch (s := { s with heap := h1 }) R1 ?_)
  refine wpAny_bind (wpAny_holding ?_)
  refine wpAny_bind (walk_some (s := { s with heap := h1 }) R1 N1 (fun b hb => ?_) fun out h2 ep2 t2 pm sb N2 => ?_)
  · rcases List.mem_cons.mp hb with rfl | hb
    · exact ⟨_, _, _, O1⟩
    · rw [List.mem_singleton.mp hb]
      exact ⟨_, _, _, N1⟩
  have k2 : ∀ b ob, s.heap.get? b = some ob → h2.get? b = some ob := fun b ob e => (sb.2 b (Nat.ne_of_lt (Heap.lt_size e))).trans (k1 b ob e)
  have Z := N2.is (S := fun _ => false) (fun k => by simp)
  have go : out.toList.length = es.size := by rw [pm.length_eq, Array.length_toList]
  refine wpAny_bind (MeetsSeq2.wpAny_forIn_array _ (fun rest b s' => Half w s out.toList (fun k => k ∉ eo.toList.map keyOf) rest b s') _ ?_ ?_ out _ ⟨[], h2, 0, _, rfl, rfl, k2, Z, Nat.le_refl _, fun k => by simp⟩)
  · rintro e rest b s' hI
    have me : e ∈ es.toList := pm.mem_iff.mp (by
      obtain ⟨done, h', c, S, eq, _⟩ := hI
      rw [eq]
      exact List.mem_append_right _ (.head _))
    refine wpAny_bind (wpAny_holding ?_)
    refine half_turn R O (R.good e me) (by rw [go]; exact R.few) hI (neg := false) (fun k => by rw [decide_eq_false_iff_not]) (fun r => ⟨fun z => ?_, fun z => ?_⟩) fun h3 R3 H3 => ?_
    · cases r with
      | none => rfl
      | some x => cases z
    · cases r with
      | none => exact absurd rfl z
      | some x => rfl
    refine wpAny_bind (same_epoch (s := { s with heap := h3 }) R3 ?_)
    exact wpAny_pure H3
  · rintro b s' ⟨done, h', c, S, eq, rfl, kk, SR, lc, mem⟩
    rw [List.append_nil] at eq
    subst eq
    refine wpAny_pure (wpAny_pure (h h' c S SR (fun k => ?_) (by rw [← go]; exact lc) kk))
    rw [mem, (pm.map keyOf).mem_iff]
end
end Tc
/-! the table of a set that is laid anew: each hash at its own place -/
namespace Tc
open PySem PySem.Spec PyProof.Rows L2
/-- what owns each place, of these hashes -/
def Own (M : Nat) (owner : Array (Option Nat)) (p : List Int) : Prop := owner.size = M ∧ ∀ j, j < M → ∀ k, owner.getD j none = some k ↔ ∃ h, p[k]? = some h ∧ SetTable.bits h % M = j
abbrev layStep (M : Nat) (acc : Option (Array (Option Nat) × Nat)) (h : Int) : Option (Array (Option Nat) × Nat) := do
  let (owner, k) ← acc
  let j ← SetTable.layClean.free (M - 1) owner (SetTable.turns (M - 1)) (SetTable.bits h % (M - 1 + 1)) (SetTable.bits h)
  pure (owner.setIfInBounds j (some k), k + 1)
theorem free_at {M : Nat} {owner : Array (Option Nat)} {i p : Nat} (f : Nat) (hi : i < owner.size) (e : owner.getD i none = none) : SetTable.layClean.free (M - 1) owner (f + 1) i p = some i := by
  unfold SetTable.layClean.free
  have l : SetTable.runEnd (M - 1) i + 1 - i = (SetTable.runEnd (M - 1) i - i) + 1 := by
    unfold SetTable.runEnd
    split <;> omega
  rw [l, List.range_succ_eq_map, List.find?_cons_of_pos]
  · rfl
  · show (owner.getD (i + 0) (some 0)).isNone = true
    rw [Nat.add_zero]
    rw [Array.getD_eq_getD_getElem?, Array.getElem?_eq_getElem hi] at e ⊢
    simp only [Option.getD_some] at e ⊢
    rw [e] <;> rfl
theorem lay_fold {M : Nat} (hM : 0 < M) : ∀ (l p : List Int) (owner : Array (Option Nat)), Own M owner p → ((p ++ l).map fun h => SetTable.bits h % M).Nodup →
    ∃ owner', l.foldl (layStep M) (some (owner, p.length)) = some (owner', (p ++ l).length) ∧ Own M owner' (p ++ l)
  | [], p, owner, h, _ => ⟨owner, by rw [List.append_nil] <;> rfl, by rw [List.append_nil]; exact h⟩
  | h :: l, p, owner, ⟨hs, ho⟩, nd => by
    have lt : SetTable.bits h % M < M := Nat.mod_lt _ hM
    have nk : owner.getD (SetTable.bits h % M) none = none := by
      cases q : owner.getD (SetTable.bits h % M) none with
      | none => rfl
      | some k =>
        obtain ⟨h', e1, e2⟩ := (ho _ lt k).mp q
        rw [List.map_append, List.map_cons] at nd
        have := (List.nodup_append.mp nd).2.2 (SetTable.bits h' % M) (List.mem_map.mpr ⟨h', List.mem_of_getElem? e1, rfl⟩) (SetTable.bits h % M) (.head _)
        exact absurd e2 this
    have st : layStep M (some (owner, p.length)) h = some (owner.setIfInBounds (SetTable.bits h % M) (some p.length), (p ++ [h]).length) := by
      show (do
        let j ← SetTable.layClean.free (M - 1) owner (SetTable.turns (M - 1)) (SetTable.bits h % (M - 1 + 1)) (SetTable.bits h)
        pure (owner.setIfInBounds j (some p.length), p.length + 1)) = _
      rw [show M - 1 + 1 = M from by omega, show SetTable.turns (M - 1) = (M - 1 + 14) + 1 from rfl, free_at _ (by rw [hs]; exact lt) nk, List.length_append]
      rfl
    have own2 : Own M (owner.setIfInBounds (SetTable.bits h % M) (some p.length)) (p ++ [h]) := by
      refine ⟨by rw [Array.size_setIfInBounds, hs], fun j hj k => ?_⟩
      rw [Array.getD_eq_getD_getElem?, Array.getElem?_setIfInBounds]
      by_cases c : SetTable.bits h % M = j
      · rw [if_pos c, if_pos (by rw [hs, c]; exact hj)]
        simp only [Option.getD_some, Option.some.injEq]
        constructor
        · rintro rfl
          exact ⟨h, by rw [List.getElem?_append_right (Nat.le_refl _), Nat.sub_self] <;> rfl, c⟩
        · rintro ⟨h', e1, e2⟩
          by_cases ck : k < p.length
          · rw [List.getElem?_append_left ck] at e1
            have := (ho j hj k).mpr ⟨h', e1, e2⟩
            rw [← c, nk] at this
            cases this
          · have := (List.getElem?_eq_some_iff.mp e1).1
            rw [List.length_append, List.length_singleton] at this
            omega
      · rw [if_neg c, ← Array.getD_eq_getD_getElem?, ho j hj k]
        constructor
        · rintro ⟨h', e1, e2⟩
          have := (List.getElem?_eq_some_iff.mp e1).1
          exact ⟨h', by rw [List.getElem?_append_left this]; exact e1, e2⟩
        · rintro ⟨h', e1, e2⟩
          by_cases ck : k < p.length
          · rw [List.getElem?_append_left ck] at e1
            exact ⟨h', e1, e2⟩
          · have ek : k = p.length := by
              have := (List.getElem?_eq_some_iff.mp e1).1
              rw [List.length_append, List.length_singleton] at this
              omega
            subst ek
            rw [List.getElem?_append_right (Nat.le_refl _), Nat.sub_self] at e1
            cases e1
            exact absurd e2 c
    obtain ⟨o2, e, w2⟩ := lay_fold hM l (p ++ [h]) _ own2 (by rw [List.append_assoc]; exact nd)
    refine ⟨o2, ?_, by rw [show p ++ h :: l = p ++ [h] ++ l from by rw [List.append_assoc] <;> rfl]; exact w2⟩
    rw [List.foldl_cons, st, e, List.append_assoc] <;> rfl
theorem laid_ok {M : Nat} (hM : 0 < M) (finger moves : Nat) (led plain : Bool) {hs : Array Int} (nd : (hs.toList.map fun h => SetTable.bits h % M).Nodup) :
    ∃ t order, SetTable.laid (M - 1) finger moves led plain hs = some (t, order) ∧ t.mask = M - 1 ∧ t.dummies = #[] ∧ t.place.size = hs.size ∧ Ris t.place.toList ∧ t.led = led ∧ t.finger = finger ∧ t.moves = moves ∧ t.plain = plain ∧ order.toList.Perm (List.range hs.size) := by
  have own0 : Own M (Array.replicate M none) [] := ⟨Array.size_replicate, fun j hj k => by
    rw [Array.getD_eq_getD_getElem?, Array.getElem?_replicate]
    split <;> simp⟩
  obtain ⟨owner, e, hs2, ho⟩ := lay_fold hM hs.toList [] _ own0 nd
  have e1 : SetTable.layClean (M - 1) hs = some owner := by
    unfold SetTable.layClean
    rw [← Array.foldl_toList, show M - 1 + 1 = M from by omega]
    have : hs.toList.foldl (layStep M) (some (Array.replicate M none, 0)) = some (owner, ([] ++ hs.toList).length) := e
    have q : hs.toList.foldl (fun (acc : Option (Array (Option Nat) × Nat)) h => do
        let (owner, k) ← acc
        let j ← SetTable.layClean.free (M - 1) owner (SetTable.turns (M - 1)) (SetTable.bits h % M) (SetTable.bits h)
        pure (owner.setIfInBounds j (some k), k + 1)) (some (Array.replicate M none, 0)) = some (owner, ([] ++ hs.toList).length) := by
      rw [← this]
      congr 1
      funext acc h
      show _ = (do
        let (owner, k) ← acc
        let j ← SetTable.layClean.free (M - 1) owner (SetTable.turns (M - 1)) (SetTable.bits h % (M - 1 + 1)) (SetTable.bits h)
        pure (owner.setIfInBounds j (some k), k + 1))
      rw [show M - 1 + 1 = M from by omega]
    rw [q] <;> rfl
  rw [List.nil_append] at ho
  unfold SetTable.laid
  rw [e1, show M - 1 + 1 = M from by omega]
  generalize hl : (List.range M).filterMap (fun j => (owner.getD j none).map (j, ·)) = live
  have pw : live.Pairwise fun x y => x.1 < y.1 := by
    rw [← hl, List.pairwise_filterMap]
    refine List.pairwise_lt_range.imp fun {a b} h x hx y hy => ?_
    cases qa : owner.getD a none with
    | none => rw [qa] at hx; cases hx
    | some ka =>
      rw [qa] at hx
      cases hx
      cases qb : owner.getD b none with
      | none => rw [qb] at hy; cases hy
      | some kb =>
        rw [qb] at hy
        cases hy
        exact h
  have me : ∀ j k, (j, k) ∈ live ↔ ∃ h, hs.toList[k]? = some h ∧ SetTable.bits h % M = j := fun j k => by
    rw [← hl, List.mem_filterMap]
    constructor
    · rintro ⟨a, ha, q⟩
      have ha := List.mem_range.mp ha
      cases qa : owner.getD a none with
      | none => rw [qa] at q; cases q
      | some ka =>
        rw [qa] at q
        have q := Option.some.inj q
        obtain ⟨rfl, rfl⟩ := Prod.mk.inj q
        exact (ho _ ha _).mp qa
    · rintro ⟨h, e1, rfl⟩
      have lt : SetTable.bits h % M < M := Nat.mod_lt _ hM
      exact ⟨_, List.mem_range.mpr lt, by rw [(ho _ lt k).mpr ⟨h, e1, rfl⟩] <;> rfl⟩
  have nd2 : (live.map (·.2)).Nodup := by
    refine List.pairwise_map.mpr (pw.imp_of_mem fun {x y} hx hy h e => ?_)
    obtain ⟨h1, e1, e2⟩ := (me x.1 x.2).mp hx
    obtain ⟨h2, e3, e4⟩ := (me y.1 y.2).mp hy
    rw [e, e3] at e1
    cases e1
    omega
  have pm : (live.map (·.2)).Perm (List.range hs.size) := by
    refine (List.perm_ext_iff_of_nodup nd2 List.nodup_range).mpr fun k => ?_
    rw [List.mem_map, List.mem_range]
    constructor
    · rintro ⟨⟨j, k'⟩, hx, rfl⟩
      obtain ⟨h, e1, _⟩ := (me j k').mp hx
      have := (List.getElem?_eq_some_iff.mp e1).1
      rwa [Array.length_toList] at this
    · intro hk
      exact ⟨(_, k), (me _ k).mpr ⟨hs.toList[k]'(by rw [Array.length_toList]; exact hk), List.getElem?_eq_getElem _, rfl⟩, rfl⟩
  refine ⟨_, _, rfl, rfl, rfl, ?_, ?_, rfl, rfl, rfl, rfl, by rw [hl]; exact pm⟩ <;> rw [hl]
  · have := pm.length_eq
    rw [List.length_map, List.length_range] at this
    show (live.map (·.1)).toArray.size = _
    rw [List.size_toArray, List.length_map, this]
  · exact List.pairwise_map.mpr pw
end Tc
/-! a set of ints that stand one behind another, copied; numbers taken out -/
namespace Tc
open PySem PySem.Spec PyProof.Rows L2
theorem raw_small {k : Int} (h0 : 0 ≤ k) (h1 : k < 2 ^ 30) : SetTable.bits (hashInt k) = k.toNat := by
  have e : rawHash k = k := by
    have q : (k.natAbs : Int) % ((2305843009213693951 : Nat) : Int) = k := by
      rw [show (k.natAbs : Int) = k from by omega]
      exact Int.emod_eq_of_lt h0 (by omega)
    have e1 : (if k < 0 then -k else k) = k := if_neg (by omega)
    unfold rawHash
    simp only [show (2 ^ 61 - 1 : Nat) = 2305843009213693951 from rfl]
    rw [q, e1, if_neg (by rw [beq_iff_eq]; omega)]
  unfold hashInt
  rw [e]
  have : (k == -1) = false := by
    rw [beq_eq_false_iff_ne]
    omega
  rw [this]
  simp only [Bool.false_eq_true, if_false]
  unfold SetTable.bits
  rw [Int.emod_eq_of_lt h0 (by omega)]
theorem size_above {n : Nat} (h : n ≤ 128) : n < SetTable.sizeAbove n ∧ SetTable.sizeAbove n ≤ 256 ∧ 8 ≤ SetTable.sizeAbove n := by
  have : ∀ m : Fin 129, m.1 < SetTable.sizeAbove m.1 ∧ SetTable.sizeAbove m.1 ≤ 256 ∧ 8 ≤ SetTable.sizeAbove m.1 := by decide +kernel
  exact this ⟨n, by omega⟩
theorem mod_eq {a b M : Nat} (e : a % M = b % M) (h1 : a < b + M) (h2 : b < a + M) : a = b := by
  have x := Nat.div_add_mod a M
  have y := Nat.div_add_mod b M
  rcases Nat.lt_trichotomy (a / M) (b / M) with c | c | c
  · have := Nat.mul_le_mul_left M c
    rw [Nat.mul_succ] at this
    omega
  · rw [c] at x
    omega
  · have := Nat.mul_le_mul_left M c
    rw [Nat.mul_succ] at this
    omega
/-- numbers of a row, each once -/
theorem row_res {l : List Int} {lo : Int} {M : Nat} (h0 : 0 ≤ lo) (h1 : lo + l.length < 2 ^ 30) (hl : ∀ k ∈ l, lo ≤ k ∧ k < lo + l.length) (nd : l.Nodup) (hM : l.length ≤ M) : (l.map fun k => SetTable.bits (hashInt k) % M).Nodup := by
  refine List.pairwise_map.mpr ?_
  refine List.Pairwise.imp_of_mem (fun {a b} ha hb ne e => ?_) nd
  obtain ⟨a0, a1⟩ := hl a ha
  obtain ⟨b0, b1⟩ := hl b hb
  rw [raw_small (by omega) (by omega), raw_small (by omega) (by omega)] at e
  exact ne (by
    have := mod_eq (a := a.toNat) (b := b.toNat) e (by omega) (by omega)
    omega)
end Tc
namespace Tc
open PySem PySem.Spec PyProof.Rows L2
section
variable {P : Program} {w : World} {A : Around} {E : Value → Shared → Prop} {s : Shared}
theorem relaid_nil (t : SetTable) (wanted : Nat) (h : 0 < SetTable.sizeAbove wanted) : ∃ t', t.relaid #[] wanted = some (t', #[]) ∧ t'.mask = SetTable.sizeAbove wanted - 1 ∧ t'.dummies = #[] ∧ t'.place.size = 0 ∧ Ris t'.place.toList ∧ t'.led = t.led := by
  obtain ⟨t', order, e, e1, e2, e3, e4, e5, _, _, _, pm⟩ := laid_ok (M := SetTable.sizeAbove wanted) h t.finger (t.movedTo (SetTable.sizeAbove wanted - 1)) t.led t.plain (hs := #[]) (by simp)
  have : order = #[] := by
    have q := pm.length_eq
    rw [Array.length_toList] at q
    exact Array.eq_empty_of_size_eq_zero (by simpa using q)
  subst this
  exact ⟨t', e, e1, e2, e3, e4, e5⟩
/-- a new set is given room for so many -/
theorem room_new {a : Addr} {n ep : Nat} {Q : Unit → Shared → Prop} (N : Ent w s.heap a #[] ep (newT w)) (hn : n ≤ 64)
    (h : ∀ h' ep' t', Heap.SameBut a s.heap h' → Ent w h' a #[] ep' t' → n ≤ t'.mask → t'.mask % 2 = 1 ∨ True → t'.dummies = #[] → Q () { s with heap := h' }) : wpAny (model P w) A (setRoomFor a n) Q E s := by
  unfold setRoomFor
  refine wpAny_bind (N.state ?_)
  dsimp only
  have rf : (newT w).roomFor n = if (0 + n) * 5 ≥ 7 * 3 then some ((0 + n) * 2) else none := rfl
  rw [rf]
  by_cases c : (0 + n) * 5 ≥ 7 * 3
  · rw [if_pos c]
    dsimp only
    obtain ⟨s1, s2, s3⟩ := size_above (n := (0 + n) * 2) (by omega)
    obtain ⟨t', e, e1, e2, e3, e4, e5⟩ := relaid_nil (newT w) ((0 + n) * 2) (by omega)
    unfold setRelay
    refine wpAny_bind (N.state ?_)
    dsimp only
    refine wp_if_neg (by rw [sizeLine_eq]; omega) ?_
    try refine wpAny_bind (wpAny_pure ?_)
    refine wpAny_bind (wpAny_of_eq (a := ((#[] : Array (Int × Value)), t')) ?_ ?_)
    · rw [show (#[] : Array (Int × Value)).map (·.1) = #[] from Array.map_empty, e] <;> rfl
    obtain ⟨o, ho, hex, hd⟩ := N.at_
    refine wpAny_storeSet_of ho hd ?_ (Nat.zero_le _)
    refine h _ _ t' (Heap.SameBut.update _ _ _) ⟨⟨_, store_at (es' := #[]) (t' := t') ho hd, hex, rfl⟩, N.good, N.nod, N.few, ?_, e4, ?_⟩ (by omega) (.inr trivial) e2
    · unfold SetTable.fits SetTable.fill
      rw [e3, e2]
      simp
    · rw [e5]
      exact N.led
  · rw [if_neg c]
    dsimp only
    exact wpAny_pure (h s.heap ep (newT w) (Heap.SameBut.refl _ _) N (by show n ≤ 7; omega) (.inr trivial) rfl)
theorem good_hash {e : Int × Value} (g : GoodE e) : e.1 = hashInt (keyOf e) := by
  obtain ⟨k, tk, h1, h2⟩ := g
  unfold keyOf
  rw [h1]
  exact h2
/-- numbers of a row -/
def Row (es : Array (Int × Value)) : Prop := es.size ≤ 64 ∧ ∃ lo : Int, 0 ≤ lo ∧ lo + es.size < 2 ^ 30 ∧ ∀ k ∈ es.toList.map keyOf, lo ≤ k ∧ k < lo + es.size
theorem merge_new {each : Sem Unit} {r a : Addr} {es : Array (Int × Value)} {ep epr : Nat} {t : SetTable} {Q : Unit → Shared → Prop} (R : Ent w s.heap a es ep t) (N : Ent w s.heap r #[] epr (newT w)) (ne : r ≠ a) (row : Row es) (some_ : 0 < es.size)
    (h : ∀ h' es2 ep2 t2, Heap.SameBut r s.heap h' → Ent w h' r es2 ep2 t2 → es2.toList.Perm es.toList → t2.dummies = #[] → Q () { s with heap := h' }) : wpAny (model P w) A (setMerge r a each) Q E s := by
  obtain ⟨n64, lo, lo0, lo1, hk⟩ := row
  unfold setMerge
  refine wp_if_neg (by rw [beq_iff_eq]; exact ne) ?_
  try refine wpAny_bind (wpAny_pure ?_)
  refine wpAny_bind (R.state ?_)
  dsimp only
  refine wp_if_neg (by simp; intro z; rw [z] at some_; exact absurd some_ (by decide)) ?_
  try refine wpAny_bind (wpAny_pure ?_)
  refine wpAny_bind (room_new N n64 fun h1 ep1 t1 sb1 N1 m1 _ d1 => ?_)
  have R1 : Ent w h1 a es ep t := R.mono fun o e => (sb1.2 a (Ne.symm ne)).trans e
  refine wpAny_bind (Ent.state (s := { s with heap := h1 }) N1 ?_)
  dsimp only
  obtain ⟨o, ho, hex, hd⟩ := N1.at_
  have pz : t1.place.size = 0 := by
    have := N1.fit
    unfold SetTable.fits at this
    rw [Bool.and_eq_true, beq_iff_eq] at this
    exact this.1
  have rd : t1.road t = if (t1.mask == t.mask && t.dummies.isEmpty) = true then .slotForSlot else .clean := by
    unfold SetTable.road SetTable.fill
    rw [pz, d1, if_neg (by simp)]
  rw [rd]
  by_cases c : (t1.mask == t.mask && t.dummies.isEmpty) = true
  · rw [if_pos c]
    dsimp only
    have c2 : t.dummies = #[] := by
      rw [Bool.and_eq_true] at c
      exact Array.isEmpty_iff.mp c.2
    refine wpAny_storeSet_of (s := { s with heap := h1 }) ho hd ?_ (fits_of_scanBound R.few)
    refine h _ es _ { t with finger := t1.finger, led := t1.led && t.led, moves := t1.moves, plain := t1.plain && t.plain } (sb1.trans (Heap.SameBut.update _ _ _)) ⟨⟨_, store_at (es' := es) (t' := { t with finger := t1.finger, led := t1.led && t.led, moves := t1.moves, plain := t1.plain && t.plain }) ho hd, hex, rfl⟩, R.good, R.nod, R.few, R.fit, R.ris, ?_⟩ (List.Perm.refl _) c2
    rcases N1.led with z | z
    · exact .inl z
    · rcases R.led with y | y
      · exact .inl y
      · refine .inr ?_
        show (t1.led && t.led) = true
        rw [z, y] <;> rfl
  · rw [if_neg c]
    dsimp only
    have hl : (es.map (·.1)).toList = (es.toList.map keyOf).map hashInt := by
      rw [Array.toList_map, List.map_map]
      exact List.map_congr_left fun e he => good_hash (R.good e he)
    have kl : (es.toList.map keyOf).length = es.size := by rw [List.length_map, Array.length_toList]
    have nd : ((es.map (·.1)).toList.map fun h => SetTable.bits h % (t1.mask + 1)).Nodup := by
      rw [hl, List.map_map]
      exact row_res (l := es.toList.map keyOf) (lo := lo) lo0 (by rw [kl]; exact lo1) (fun k hk2 => by rw [kl]; exact hk k hk2) R.nod (by rw [kl]; omega)
    obtain ⟨t2, order, e, e1, e2, e3, e4, e5, _, _, _, pm⟩ := laid_ok (M := t1.mask + 1) (by omega) t1.finger t1.moves (t1.led && t.led) (t1.plain && t.plain) nd
    rw [Nat.add_sub_cancel] at e e1
    rw [Array.size_map] at e3 pm
    have p2 : (order.filterMap (es[·]?)).toList.Perm es.toList := by
      rw [Array.toList_filterMap]
      exact (pm.filterMap _).trans (by rw [filterMap_getElem?_range])
    have z2 : (order.filterMap (es[·]?)).size = es.size := by
      have := p2.length_eq
      rw [Array.length_toList, Array.length_toList] at this
      exact this
    generalize hes2 : order.filterMap (es[·]?) = es2 at p2 z2
    refine wpAny_bind (wpAny_of_eq (a := (es2, t2)) ?_ ?_)
    · rw [e]
      show (if ((order.filterMap (es[·]?)).size != es.size) = true then _ else pure (order.filterMap (es[·]?), t2)) = _
      rw [hes2, if_neg (by rw [z2]; simp)]
    dsimp only
    have few2 : es2.size < scanBound := by rw [z2]; exact R.few
    refine wpAny_storeSet_of (s := { s with heap := h1 }) ho hd ?_ (fits_of_scanBound few2)
    refine h _ es2 _ t2 (sb1.trans (Heap.SameBut.update _ _ _)) ⟨⟨_, store_at (es' := es2) (t' := t2) ho hd, hex, rfl⟩, fun x hx => R.good x (p2.mem_iff.mp hx), (p2.map keyOf).nodup_iff.mpr R.nod, few2, ?_, e4, ?_⟩ p2 e2
    · unfold SetTable.fits SetTable.fill
      rw [e3, e2, e1, z2]
      simp
      omega
    · rw [e5]
      rcases N1.led with z | z
      · exact .inl z
      · rcases R.led with y | y
        · exact .inl y
        · refine .inr ?_
          rw [z, y] <;> rfl
theorem copy_of {a : Addr} {es : Array (Int × Value)} {ep : Nat} {t : SetTable} {Q : Value → Shared → Prop} (R : Ent w s.heap a es ep t) (row : Row es) (some_ : 0 < es.size)
    (h : ∀ h' es2 ep2 t2, (∀ b o, s.heap.get? b = some o → h'.get? b = some o) → Ent w h' s.heap.objs.size es2 ep2 t2 → es2.toList.Perm es.toList → t2.dummies = #[] → Q (.ref s.heap.objs.size) { s with heap := h' }) : wpAny (model P w) A (Builtin.Frozenset.copyOf a) Q E s := by
  have la : a < s.heap.objs.size := R.at_.elim fun _ z => Heap.lt_size z.1
  unfold Builtin.Frozenset.copyOf
  refine wpAny_bind (base_of R ?_)
  refine wpAny_bind (new_set fun h1 N1 k1 => ?_)
  unfold Builtin.Frozenset.addrOf
  refine wpAny_bind (wpAny_pure ?_)
  refine wpAny_bind (merge_new (s := { s with heap := h1 }) (R.mono (h' := h1) (k1 a)) N1 (Nat.ne_of_gt la) row some_ fun h2 es2 ep2 t2 sb E2 pm d2 => ?_)
  exact wpAny_pure (h h2 es2 ep2 t2 (fun b ob e => (sb.2 b (Nat.ne_of_lt (Heap.lt_size e))).trans (k1 b ob e)) E2 pm d2)
end
end Tc
/-! numbers taken out of a set of ints; the difference of two sets -/
namespace Tc
open PySem PySem.Spec PyProof.Rows L2
theorem erase_list {α : Type} (xs : Array α) (i : Nat) : (SetTable.eraseAt xs i).toList = xs.toList.eraseIdx i := by
  unfold SetTable.eraseAt
  rw [Array.toList_append, Array.toList_extract, Array.toList_extract, List.eraseIdx_eq_take_drop_succ]
  simp [List.extract_eq_take_drop]
  exact List.take_of_length_le (by simp)
theorem gone_iff {l : List Int} {i : Nat} {k : Int} (hl : i < l.length) (nd : l.Nodup) (gi : l[i] = k) (k' : Int) : k' ∈ l.eraseIdx i ↔ k' ∈ l ∧ k' ≠ k := by
  rw [List.mem_eraseIdx_iff_getElem]
  constructor
  · rintro ⟨j, hj, ne, e⟩
    subst e
    refine ⟨List.getElem_mem _, fun z => ne ?_⟩
    rw [← gi] at z
    have pw := List.pairwise_iff_getElem.mp nd
    rcases Nat.lt_trichotomy j i with c | c | c
    · exact absurd z (pw j i hj hl c)
    · exact c
    · exact absurd z.symm (pw i j hl hj c)
  · rintro ⟨m, ne⟩
    obtain ⟨j, hj, e⟩ := List.getElem_of_mem m
    refine ⟨j, hj, fun z => ne ?_, e⟩
    subst z
    rw [← e, gi]
theorem drop_tab {t : SetTable} {i n : Nat} (hf : t.fits n = true) (hi : i < n) (r : Ris t.place.toList) : (t.drop i).fits (n - 1) = true ∧ Ris (t.drop i).place.toList ∧ (t.drop i).led = t.led ∧ (t.drop i).mask = t.mask ∧ (t.drop i).dummies.size = t.dummies.size + 1 := by
  unfold SetTable.fits SetTable.fill at hf
  rw [Bool.and_eq_true, beq_iff_eq, decide_eq_true_eq] at hf
  have ip : i < t.place.size := by omega
  unfold SetTable.drop
  rw [Array.getElem?_eq_getElem ip]
  dsimp only
  have l1 : (SetTable.eraseAt t.place i).size = n - 1 := by
    rw [← Array.length_toList, erase_list, List.length_eraseIdx, Array.length_toList, if_pos ip]
    omega
  have l2 : (SetTable.insertAt t.dummies (SetTable.below t.dummies t.place[i]) t.place[i]).size = t.dummies.size + 1 := by
    rw [← Array.length_toList, (SetTable.insertAt_perm _ _ _).length_eq, Array.length_toList, Array.size_push]
  refine ⟨?_, ?_, rfl, rfl, l2⟩
  · unfold SetTable.fits SetTable.fill
    try dsimp only
    rw [l1, l2, Bool.and_eq_true, beq_iff_eq, decide_eq_true_eq]
    exact ⟨rfl, by omega⟩
  · try dsimp only
    rw [erase_list]
    exact List.Pairwise.sublist (List.eraseIdx_sublist _ _) r
section
variable {P : Program} {w : World} {A : Around} {E : Value → Shared → Prop} {s : Shared}
theorem discard_one {r : Addr} {es : Array (Int × Value)} {ep : Nat} {t : SetTable} {e : Int × Value} {Q : Bool → Shared → Prop} (R : Ent w s.heap r es ep t) (g : GoodE e)
    (h : ∀ b h' es2 ep2 t2, Heap.SameBut r s.heap h' → Ent w h' r es2 ep2 t2 → (∀ k, k ∈ es2.toList.map keyOf ↔ k ∈ es.toList.map keyOf ∧ k ≠ keyOf e) → es2.size ≤ es.size → t2.mask = t.mask → t2.dummies.size ≤ t.dummies.size + 1 → Q b { s with heap := h' }) : wpAny (model P w) A (setDiscardHashed r e.2 e.1) Q E s := by
  obtain ⟨tk, q⟩ := good_key (P := P) (w := w) g
  generalize hk : keyOf e = k at q h
  subst q
  dsimp only
  obtain ⟨o, ho, hex, hd⟩ := R.at_
  have hel : ElemsOf (intKind P w) es.toList := good_elems R.good
  unfold setDiscardHashed setFind setFindIn
  refine wpAny_bind ?_
  refine wpAny_bind (R.state ?_)
  dsimp only
  rw [byScan_of (knd := intKind P w) (x := .int k tk) rfl R.few hel]
  simp only [↓reduceIte]
  refine wpAny_bind (wpAny_rule ?_)
  refine wpAny_bind (wpAny_setScan_of (knd := intKind P w) (k := k) (x := .int k tk) (intKind_is P w k tk) ho hd R.fit hel ?_)
  cases hf : List.findIdx? (fun e => (intKind P w).is k e.2) es.toList with
  | none =>
    dsimp only
    refine wpAny_pure ?_
    refine wpAny_pure (h false s.heap es ep t (Heap.SameBut.refl _ _) R (fun k' => ?_) (Nat.le_refl _) rfl (Nat.le_succ _))
    refine ⟨fun m => ⟨m, ?_⟩, fun m => m.1⟩
    rintro rfl
    obtain ⟨x, hx, q⟩ := (good_mem (P := P) (w := w) R.good k').mp m
    have := List.findIdx?_eq_none_iff.mp hf x hx
    rw [q] at this
    cases this
  | some i =>
    dsimp only
    obtain ⟨hi, pi, _⟩ := List.findIdx?_eq_some_iff_getElem.mp hf
    have hi2 : i < es.size := by rw [← Array.length_toList]; exact hi
    have ki : keyOf es.toList[i] = k := (good_is (P := P) (w := w) (R.good _ (List.getElem_mem hi)) k).mp pi
    refine wpAny_pure ?_
    refine wpAny_bind (R.state ?_)
    dsimp only
    rw [Nat.zero_add]
    obtain ⟨d1, d2, d3, d4, d5⟩ := drop_tab R.fit hi2 R.ris
    have sz : (SetTable.eraseAt es i).size = es.size - 1 := by
      rw [← Array.length_toList, erase_list, List.length_eraseIdx, Array.length_toList, if_pos hi2]
    have few : (SetTable.eraseAt es i).size < scanBound := by rw [sz]; exact Nat.lt_of_le_of_lt (Nat.sub_le _ _) R.few
    have sub : (SetTable.eraseAt es i).toList.Sublist es.toList := by rw [erase_list]; exact List.eraseIdx_sublist _ _
    refine wpAny_bind (wpAny_storeSet_of ho hd ?_ (fits_of_scanBound few))
    refine wpAny_bind (wpAny_point ?_)
    refine wpAny_pure (h true _ (SetTable.eraseAt es i) _ (t.drop i) (Heap.SameBut.update _ _ _) ⟨⟨_, store_at (es' := SetTable.eraseAt es i) (t' := t.drop i) ho hd, hex, rfl⟩, fun x hx => R.good x (sub.subset hx), R.nod.sublist (sub.map _), few, by rw [sz]; exact d1, d2, R.led.imp (fun z => z) fun z => by rw [d3]; exact z⟩ (fun k' => ?_) (by omega) d4 (by omega))
    rw [erase_list, show (es.toList.eraseIdx i).map keyOf = (es.toList.map keyOf).eraseIdx i from by
      rw [List.eraseIdx_eq_take_drop_succ, List.eraseIdx_eq_take_drop_succ, List.map_append, List.map_take, List.map_drop]]
    exact gone_iff (by rw [List.length_map]; exact hi) R.nod (by rw [List.getElem_map]; exact ki) k'
theorem diff_update {id : String} {r o : Addr} {es eo : Array (Int × Value)} {ep epo : Nat} {t to : SetTable} {Q : Unit → Shared → Prop} (R : Ent w s.heap r es ep t) (O : Ent w s.heap o eo epo to) (ne : o ≠ r) (small : ¬ eo.size / 8 > es.size) (dn : t.dummies = #[]) (tidy : eo.size ≤ t.mask / 4)
    (h : ∀ h' es2 ep2 t2, Heap.SameBut r s.heap h' → Ent w h' r es2 ep2 t2 → (∀ k, k ∈ es2.toList.map keyOf ↔ k ∈ es.toList.map keyOf ∧ k ∉ eo.toList.map keyOf) → es2.size ≤ es.size → Q () { s with heap := h' }) : wpAny (model P w) A (Builtin.Frozenset.differenceUpdate id r (.ref o)) Q E s := by
  unfold Builtin.Frozenset.differenceUpdate
  refine wp_if_neg (by simp [ne]) ?_
  try refine wpAny_bind (wpAny_pure ?_)
  refine wpAny_bind (any_set O ?_)
  refine wp_if_pos rfl ?_
  unfold Builtin.Frozenset.addrOf
  refine wpAny_bind (wpAny_pure ?_)
  refine wpAny_bind (size_of O ?_)
  refine wpAny_bind (size_of R ?_)
  refine wp_if_neg small ?_
  try refine wpAny_bind (wpAny_pure ?_)
  refine wpAny_bind (O.epoch ?_)
  refine wpAny_bind (wpAny_holding ?_)
  refine wpAny_bind (walk_none O (fun b hb => ?_) fun out pm => ?_)
  · rw [List.mem_singleton.mp hb]
    exact ⟨_, _, _, R⟩
  have go : out.toList.length = eo.size := by rw [pm.length_eq, Array.length_toList]
  refine wpAny_bind (MeetsSeq2.wpAny_forIn_array _ (fun rest b s' => ∃ done h' es2 ep2 t2, out.toList = done ++ rest ∧ s' = { s with heap := h' } ∧ Heap.SameBut r s.heap h' ∧ Ent w h' r es2 ep2 t2 ∧ (∀ k, k ∈ es2.toList.map keyOf ↔ k ∈ es.toList.map keyOf ∧ k ∉ done.map keyOf) ∧ es2.size ≤ es.size ∧ t2.mask = t.mask ∧ t2.dummies.size ≤ done.length) _ ?_ ?_ out _ ⟨[], s.heap, es, ep, t, rfl, rfl, Heap.SameBut.refl _ _, R, fun k => by simp, Nat.le_refl _, rfl, by rw [dn]; exact Nat.le_refl _⟩)
  · rintro e rest b s' ⟨done, h', es2, ep2, t2, eq, rfl, sb, R2, mem, sz, mk, dm⟩
    have me : e ∈ eo.toList := pm.mem_iff.mp (by rw [eq]; exact List.mem_append_right _ (.head _))
    refine wpAny_bind (wpAny_holding ?_)
    refine discard_one (s := { s with heap := h' }) R2 (O.good e me) fun b3 h3 es3 ep3 t3 sb3 R3 m3 z3 k3 d3 => ?_
    have sb4 := sb.trans sb3
    refine wpAny_bind (same_epoch (s := { s with heap := h3 }) (O.mono (h' := h3) fun ob e => (sb4.2 o ne).trans e) ?_)
    refine wpAny_pure ⟨done ++ [e], h3, es3, ep3, t3, by rw [eq, List.append_assoc] <;> rfl, rfl, sb4, R3, fun k => ?_, Nat.le_trans z3 sz, k3.trans mk, ?_⟩
    · rw [m3, mem, List.map_append, List.mem_append, List.map_singleton, List.mem_singleton]
      exact ⟨fun z => ⟨z.1.1, fun y => y.elim z.1.2 z.2⟩, fun z => ⟨⟨z.1, fun y => z.2 (.inl y)⟩, fun y => z.2 (.inr y)⟩⟩
    · rw [List.length_append, List.length_singleton]
      omega
  · rintro b s' ⟨done, h', es2, ep2, t2, eq, rfl, sb, R2, mem, sz, mk, dm⟩
    rw [List.append_nil] at eq
    subst eq
    refine wpAny_pure ?_
    unfold setTidy
    refine wpAny_bind (Ent.state (s := { s with heap := h' }) R2 ?_)
    dsimp only
    refine wp_if_neg ?_ (wpAny_pure (h h' es2 ep2 t2 sb R2 (fun k => by rw [mem, (pm.map keyOf).mem_iff]) sz))
    unfold SetTable.tooManyDummies
    rw [decide_eq_true_eq, mk]
    omega
/-- s - o, s numbers of a row -/
theorem diff_of {id : String} {a o : Addr} {es eo : Array (Int × Value)} {ep epo : Nat} {t to : SetTable} {Q : Value → Shared → Prop} (R : Ent w s.heap a es ep t) (O : Ent w s.heap o eo epo to) (row : Row es)
    (h : ∀ h' c S, SetR w h' s.heap.objs.size S c → (∀ k, S k = true ↔ k ∈ es.toList.map keyOf ∧ k ∉ eo.toList.map keyOf) → c ≤ es.size → (∀ b o, s.heap.get? b = some o → h'.get? b = some o) → Q (.ref s.heap.objs.size) { s with heap := h' }) : wpAny (model P w) A (Builtin.Frozenset.difference id a (.ref o)) Q E s := by
  by_cases big : es.size / 4 > eo.size
  · have lo : o < s.heap.objs.size := O.at_.elim fun _ z => Heap.lt_size z.1
    unfold Builtin.Frozenset.difference
    dsimp only
    refine wpAny_bind (any_set O ?_)
    refine wp_if_neg (by simp) ?_
    try refine wpAny_bind (wpAny_pure ?_)
    unfold Builtin.Frozenset.addrOf
    try refine wpAny_bind (wpAny_pure ?_)
    refine wp_if_neg (by simp) ?_
    try refine wpAny_bind (wpAny_pure ?_)
    try simp only [↓reduceIte]
    refine wpAny_bind (size_of O ?_)
    refine wpAny_bind (size_of R ?_)
    refine wp_if_pos big ?_
    refine wpAny_bind (wpAny_rule ?_)
    refine wpAny_bind (copy_of R row (by omega) fun h1 es1 ep1 t1 k1 E1 pm d1 => ?_)
    have z1 : es1.size = es.size := by
      have := pm.length_eq
      rw [Array.length_toList, Array.length_toList] at this
      exact this
    have fl : es1.size ≤ t1.mask := by
      have := E1.fit
      unfold SetTable.fits SetTable.fill at this
      rw [Bool.and_eq_true, beq_iff_eq, decide_eq_true_eq] at this
      omega
    refine wpAny_bind (wpAny_pure ?_)
    refine wpAny_bind (wpAny_holding ?_)
    refine diff_update (s := { s with heap := h1 }) E1 (O.mono (h' := h1) (k1 o)) (Nat.ne_of_lt lo) (by omega) d1 (by omega) fun h2 es2 ep2 t2 sb E2 mem sz => ?_
    refine wpAny_pure (h h2 es2.size _ (E2.is (S := fun k => decide (k ∈ es2.toList.map keyOf)) fun k => by rw [decide_eq_true_eq]) (fun k => ?_) (by omega) fun b ob e => (sb.2 b (Nat.ne_of_lt (Heap.lt_size e))).trans (k1 b ob e))
    rw [decide_eq_true_eq, mem, (pm.map keyOf).mem_iff]
  · exact diff_new R O big h
theorem entry_set_sub : entryFor table "set.__sub__" = some Builtin.«frozenset.__sub__» := entryFor_alias (id' := "frozenset.__sub__") (by kernel_rfl) rfl (by decide +kernel) (by kernel_rfl)
theorem bin_sub {a o : Addr} {es eo : Array (Int × Value)} {ep epo : Nat} {t to : SetTable} {Q : Value → Shared → Prop} (R : Ent w s.heap a es ep t) (O : Ent w s.heap o eo epo to) (row : Row es)
    (h : ∀ h' c S, SetR w h' s.heap.objs.size S c → (∀ k, S k = true ↔ k ∈ es.toList.map keyOf ∧ k ∉ eo.toList.map keyOf) → c ≤ es.size → (∀ b o, s.heap.get? b = some o → h'.get? b = some o) → Q (.ref s.heap.objs.size) { s with heap := h' }) : wpAny (model P w) A (binaryOp .Sub (.ref a) (.ref o)) Q E s := by
  refine wpAny_binaryOp_same R.tyIs O.tyIs F.fills_set_sub F.slot_set_sub ?_
  refine wpAny_call_entry F.slot_set_sub R.tyIs entry_set_sub ?_ (F.args_set_sub_2 _ _)
  show wpAny _ _ (Builtin.«frozenset.__sub__» ⟨[.ref a, .ref o], []⟩) _ _ _
  show wpAny _ _ ((Builtin.Frozenset.slot1 "__sub__" ⟨[.ref a, .ref o], []⟩) >>= _) _ _ _
  refine wpAny_bind (wpAny_of_eq (a := (Value.ref a, Value.ref o)) rfl ?_)
  dsimp only
  refine wpAny_bind ?_
  show wpAny _ _ (andM (Builtin.Frozenset.isAnySet (.ref a)) (Builtin.Frozenset.isAnySet (.ref o))) _ _ _
  unfold andM
  refine wpAny_bind (any_set R ?_)
  refine any_set O ?_
  refine wp_if_neg (by simp) ?_
  try refine wpAny_bind (wpAny_pure ?_)
  refine wpAny_bind (diff_of R O row fun h' c S SR mem lc kk => ?_)
  exact wpAny_pure ⟨_, rfl, (fun z => nomatch z), h h' c S SR mem lc kk⟩
end
end Tc
/-! differences of sets, what they have in common, as values; sorted of a set of any size -/
namespace Tc
open PySem PySem.Spec PyProof.Rows L2
section
variable {P : Program} {w : World} {A : Around} {E : Value → Shared → Prop} {s : Shared}
theorem sorted_setN {a : Addr} {S : Int → Bool} {n : Nat} {Q : Value → Shared → Prop} (R : SetR w s.heap a S n) (hh : A.handled = none)
    (hQ : ∀ s' p (out : Array Value) (c : Nat) (ns : List Int), (∀ b o, s.heap.get? b = some o → s'.heap.get? b = some o) → s'.gens = s.gens → s'.os = s.os → s.heap.objs.size ≤ p →
      s'.heap.get? p = some (seqObj "list" out c) → IntsAre out.toList ns → ns.Pairwise (· < ·) → (∀ k, k ∈ ns ↔ S k = true) → ns.length = n → Q (.ref p) s') :
    wpAny (model P w) A (call (.builtin "sorted") [.ref a]) Q E s := by
  obtain ⟨o, es, ep, t, ho, hex, hd, g, nd, hm, hb, hf, hn, hr, hl⟩ := R
  refine Calls.call_function_entry kind_sorted plain_sorted entry_sorted (args_sorted1 _) ?_
  unfold Builtin.«sorted»
  refine wpAny_bind (m := checkCount "sorted" 1 1 _) (wpAny_pure ?_)
  refine wpAny_bind (collect_set (A := A.in1) hh ⟨o, ho, hex.1, hd⟩ hf hb hr hl fun s1 vs k1 hz g1 o1 pm => ?_)
  have hvl : vs.length = n := by rw [pm.length_eq, List.length_map, Array.length_toList]; exact hn
  have hI : IntsAre vs (vs.map Builtin.Re.reRawOf) := ints_of vs fun v hv => by
    obtain ⟨e, he, q⟩ := List.mem_map.mp (pm.mem_iff.mp hv)
    obtain ⟨k, tk, h1, _⟩ := g e he
    exact ⟨k, tk, by rw [← q]; exact h1⟩
  have pk : (vs.map Builtin.Re.reRawOf).Perm (es.toList.map keyOf) := by
    have q := pm.map Builtin.Re.reRawOf
    rw [List.map_map] at q
    exact q
  have few : vs.length ≤ sizeLine := by
    rw [hvl, ← hn]
    exact fits_of_scanBound hb
  refine wpAny_bind (wpAny_newList ?_ few)
  have hoL : (s1.heap.push (seqObj "list" vs.toArray 0)).get? s1.heap.objs.size = some (seqObj "list" vs.toArray 0) := Heap.get?_push_size _ rfl
  refine wpAny_bind (wpAny_holding (wpAny_call_entry slot_list_sort ⟨_, hoL, rfl⟩ entry_list_sort (SrtO.list_sort_ord SrtO.swo_int hoL few (fun h2 => SrtO.ints_sortable hI h2) fun out h1 h2 => ⟨_, rfl, ?_⟩) (args_list_sort _)))
  obtain ⟨a1, a2, a3⟩ := SrtO.ints_out hI h1 h2
  obtain ⟨c, hc⟩ := sortedHeap_at (vs := vs) (out := out.toArray) hoL
  have pn : (out.map SrtO.iv).Perm (es.toList.map keyOf) := a2.trans pk
  refine wpAny_pure ⟨_, rfl, hQ _ s1.heap.objs.size out.toArray c (out.map SrtO.iv) (fun b u e => ?_) g1 o1 hz hc a1 (lt_of_le_nodup _ a3 (pn.nodup_iff.mpr nd)) (fun k => by rw [pn.mem_iff, ← hm k]) ?_⟩
  · have q := k1 b u e
    have hlt := Heap.lt_size q
    show (sortedHeap (s1.heap.push (seqObj "list" vs.toArray 0)) s1.heap.objs.size vs out.toArray).get? b = some u
    rw [sortedHeap_old (Nat.ne_of_lt hlt) (by rw [size_push']; exact Nat.lt_succ_of_lt hlt)]
    exact Heap.get?_push_of_some _ q
  · rw [pn.length_eq, List.length_map, Array.length_toList]
    exact hn
end
section
variable {X : Cx}
/-- sorted(found), any number of members -/
def rSortedN (w : World) : List V → Hp → VK → Prop := fun vs H Q => ∃ (a : Addr) (S : Int → Bool) (n : Nat), vs = [V.ref a] ∧ H a = some (SetO w a S n) ∧
  ∀ (ns : List Int) (p : Addr), ns.Pairwise (· < ·) → (∀ k : Int, k ∈ ns ↔ S k = true) → ns.length = n → H p = none → Q (.ref p) (upd H p (.lst (ns.map V.int)))
theorem cr_sortedN (hc : X.calm = true) : CallR X (.builtin "sorted") (rSortedN X.w) := by
  intro pins s σ H vs us Q I r h
  obtain ⟨a, S, n, rfl, ha, q⟩ := h
  have R := setO_get I ha
  rw [Vals.ref1 r]
  refine sorted_setN R (I.ok.hd hc) fun s' p out c ns k g o hp hg hi hs hm hl => ?_
  have few : n < scanBound := by
    obtain ⟨o, es, ep, t, ho, hex, hd, g, nd, hm, hb, hf, hn, hr, hl⟩ := R
    rw [← hn]
    exact hb
  have hlen : (ns.map V.int).length ≤ sizeLine := by rw [List.length_map, hl]; exact fits_of_scanBound few
  have hn : H p = none := I.hok.fresh hp
  have J : Inv X pins σ (upd H p (.lst (ns.map V.int))) { s with heap := s'.heap, gens := s'.gens, drawn := s'.drawn, toks := s'.toks } :=
    I.call (ch := []) (Un.laid k hp hn) (I.hok.laid k hp ⟨hlen, out.toList, c, vals_of_ints hi, hg⟩) (by rw [g]; exact I.bare) (fun _ z => nomatch z)
  have e : s' = { s with heap := s'.heap, gens := s'.gens, drawn := s'.drawn, toks := s'.toks } := by
    cases s'
    cases o
    rfl
  rw [e]
  exact ⟨.ref p, _, J, rfl, q ns p hs hm hl hn⟩
/-- s - t, s numbers of a row -/
def rSSub (w : World) : V → V → Hp → VK → Prop := fun x y H Q => ∃ (a b : Addr) (S T : Int → Bool) (n m : Nat) (lo : Int), x = V.ref a ∧ y = V.ref b ∧ H a = some (SetO w a S n) ∧ H b = some (SetO w b T m) ∧ n ≤ 64 ∧ 0 ≤ lo ∧ lo + n < 2 ^ 30 ∧ (∀ k, S k = true → lo ≤ k ∧ k < lo + n) ∧
  ∀ (p : Addr) (c : Nat), H p = none → Q (.ref p) (upd H p (SetO w p (fun k => S k && !T k) c))
theorem op_ssub : OpR X (binaryOp .Sub) (rSSub X.w) := by
  intro pins s σ H x y v u Q I rx ry h
  obtain ⟨a, b, S, T, n, m, lo, rfl, rfl, ha, hb, n64, lo0, lo1, hS, q⟩ := h
  cases rx
  cases ry
  obtain ⟨es, ep, t, R, mS, zS⟩ := Ent.of (setO_get I ha)
  obtain ⟨eo, epo, to, O, mT, zT⟩ := Ent.of (setO_get I hb)
  refine bin_sub R O ⟨by omega, lo, lo0, by rw [zS]; exact lo1, fun k hk => by rw [zS]; exact hS k ((mS k).mpr hk)⟩ fun h' c S' SR mem lc kk => ?_
  have SR2 : SetR X.w h' s.heap.objs.size (fun k => S k && !T k) c := SR.congr fun k => by
    have a1 := mem k
    rw [← mS k, ← mT k] at a1
    cases h1 : S k <;> cases h2 : T k <;> cases h3 : S' k <;> simp [h1, h2, h3] at a1 ⊢
  exact ⟨.ref _, upd H s.heap.objs.size (SetO X.w s.heap.objs.size (fun k => S k && !T k) c), I.laid (t' := s.toks) kk (Nat.le_refl _) (setO_new SR2), rfl, q _ c (I.hok.fresh (Nat.le_refl _))⟩
end
end Tc
/-! zip of a range and two sequences of any kinds, walked. -/
namespace Tz
open PySem PySem.Spec PyProof.Rows L2
theorem draws_rg {prog : Program} {w : World} {A : Around} (hh : A.handled = none) (it : Addr) (lo : Int) (n : Nat) :
    Draws prog w A it [it] n (fun i v => ∃ t, v = .int (lo + (i : Nat)) t) (fun i h => IsRangeIter h it (lo + (i : Nat)) ((n : Int) - (i : Nat)) 1) where
  live := fun i h st => ⟨_, st⟩
  frame := fun i h h' st kp => kp it (by simp) _ st
  item := fun i s Q E hi st g => by
    unfold Builtin.SmallTypes.nextOf
    refine wpAny_bind (CpRep.range_item st (by omega) fun h' st' sb => ?_)
    refine wpAny_pure (g _ h' _ ⟨_, rfl⟩ ?_ sb)
    have e1 : lo + ((i + 1 : Nat) : Int) = lo + (i : Nat) + 1 := by omega
    have e2 : (n : Int) - ((i + 1 : Nat) : Int) = (n : Int) - (i : Nat) - 1 := by omega
    rw [e1, e2]
    exact st'
  done := fun s Q E st g => by
    unfold Builtin.SmallTypes.nextOf
    refine wpAny_bind (CpRep.range_end hh st (by omega) fun e h' se eb => ?_)
    obtain ⟨a, o, vs, rfl, h1, h2, _⟩ := se
    exact g h' a eb ⟨o, h1, h2⟩
theorem begins_rg (r : Addr) (lo hi : Int) (t u v : Tok) (h1 : -(2 ^ 62) ≤ lo) (h2 : lo < 2 ^ 62) (h3 : -(2 ^ 62) ≤ hi) (h4 : hi < 2 ^ 62) : Begins (.ref r) { cls := .type "range_iterator", data := .fields #[rawInt lo, rawInt (Builtin.Range.rangeSize lo hi 1), rawInt 1] } fun h => IsRange h r lo hi 1 t u v where
  iter := fun prog w A E s Q hr h => wpAny_pyIter_range hr (small_one h1 h2 h3 h4) h
  keeps := fun h h' x hk => hk r _ x
  free := rfl
/-- the range and the two as they stand at each turn, the items in new tuples -/
def ItmR (K : PySem.W.Frag) (lo : Int) (n : Nat) (k2 k3 : Bool) (b c : Addr) : It :=
  ⟨fun i H => ∃ (vs ws : List V), SqX k2 K H b vs ∧ SqX k3 K H c ws ∧ i < min (min n vs.length) ws.length,
    fun i H v G => ∃ T y z, v = .ref T ∧ H T = none ∧ G = upd H T (.tup [.int (lo + (i : Nat)), y, z]) ∧ (∀ vs, SqX k2 K H b vs → vs[i]? = some y) ∧ ∀ ws, SqX k3 K H c ws → ws[i]? = some z,
    fun i H => ∃ vs ws : List V, SqX k2 K H b vs ∧ SqX k3 K H c ws ∧ i = min (min n vs.length) ws.length⟩
def StandsR (lo : Int) (n : Nat) (k2 k3 : Bool) (z ti tp i1 i2 i3 b c : Addr) (i : Nat) (h : Heap) : Prop := IsZip h z ti tp .none ∧ IsTupOf3 h ti (.ref i1) (.ref i2) (.ref i3) ∧ (∃ x y u, IsTupOf3 h tp x y u) ∧ IsRangeIter h i1 (lo + (i : Nat)) ((n : Int) - (i : Nat)) 1 ∧ Run2 k2 h i2 b i ∧ Run2 k3 h i3 c i
theorem sixR {z ti tp i1 i2 i3 c : Addr} (h : c ∈ [z, ti, tp, i1, i2, i3]) : c = z ∨ c = ti ∨ c = tp ∨ c = i1 ∨ c = i2 ∨ c = i3 := by simpa using h
theorem turn_R {P : Program} {w : World} {K : PySem.W.Frag} {elts : List Expr} {n0 n : Nat} {lo : Int} {tpos : Pos} {k2 k3 : Bool} {b c z ti tp i1 i2 i3 : Addr} (D : ZipSep3 z ti tp i1 i2 i3 [i1] [i2, b] [i3, c]) (nb : b ≠ i2) (nc : c ≠ i3) :
    Turn P w K (.Tuple elts n0 tpos) (ItmR K lo n k2 k3 b c) [z, ti, tp, i1, i2, i3] z (StandsR lo n k2 k3 z ti tp i1 i2 i3 b c) where
  mem := .head _
  obj := by
    rintro i h ⟨e1, e2, ⟨x, y, u, e3⟩, r1, r2, r3⟩ q hq
    obtain ⟨o2, v2, g2, d2⟩ := r2.obj
    obtain ⟨o3, v3, g3, d3⟩ := r3.obj
    rcases sixR hq with rfl | rfl | rfl | rfl | rfl | rfl
    · exact ⟨_, e1, fun _ q => nomatch q⟩
    · exact ⟨_, e2, fun _ q => nomatch q⟩
    · exact ⟨_, e3, fun _ q => nomatch q⟩
    · exact ⟨_, r1, fun _ q => nomatch q⟩
    · exact ⟨o2, g2, fun v q => nomatch d2.symm.trans q⟩
    · exact ⟨o3, g3, fun v q => nomatch d3.symm.trans q⟩
  keep := by
    rintro i h h' ⟨e1, e2, ⟨x, y, u, e3⟩, r1, r2, r3⟩ kp
    exact ⟨kp z (by simp) _ e1, kp ti (by simp) _ e2, ⟨x, y, u, kp tp (by simp) _ e3⟩, kp i1 (by simp) _ r1, r2.on fun o q => kp i2 (by simp) o q, r3.on fun o q => kp i3 (by simp) o q⟩
  item := by
    rintro X hP hw hK hc i pins s σ H E I hf ⟨e1, e2, ⟨x0, y0, u0, e3⟩, r1, r2, r3⟩ ⟨vs, ws, qb, qc, hi⟩
    subst hP hw hK
    obtain ⟨ib, vb, sb, lb⟩ := seq_at I qb
    obtain ⟨ic, vc, sc, lc⟩ := seq_at I qc
    have n2 := vb.length
    have n3 := vc.length
    have hh : X.A.in1.handled = none := I.ok.hd hc
    have W := GoesN.zip3 (prog := X.prog) (w := X.w) (A := X.A) (elts := elts) (x1 := n0) (pos := tpos) D (draws_rg hh i1 lo n) (draws2 hh k2 i2 b nb ib.toArray) (draws2 hh k3 i3 c nc ic.toArray)
    have hi' : i < min (min n ib.toArray.size) ic.toArray.size := by simp; omega
    refine W.goes i s _ E hi' ⟨e1, e2, ⟨x0, y0, u0, e3⟩, r1, ⟨r2, sb⟩, r3, sc⟩ ?_
    rintro v h' tk ⟨T, x, y, u, rfl, hT, px, py, pu, tt⟩ ⟨f1, f2, f3, f4, ⟨f5, _⟩, f6, _⟩ kp ht
    obtain ⟨tx, rfl⟩ := px
    obtain ⟨y', hy, ry⟩ : ∃ x', vs[i]? = some x' ∧ RelV x' y := by
      obtain ⟨u1, hu1, ru1⟩ := vb.get (x := vs[i]'(by omega)) (i := i) (by simp [show i < vs.length by omega])
      have : u1 = y := by
        have px : ib.toArray[i]? = some y := py
        simp at px
        rw [px] at hu1
        exact (Option.some.inj hu1).symm
      subst this
      exact ⟨_, by simp [show i < vs.length by omega], ru1⟩
    obtain ⟨u', hu, ru⟩ : ∃ x', ws[i]? = some x' ∧ RelV x' u := by
      obtain ⟨u1, hu1, ru1⟩ := vc.get (x := ws[i]'(by omega)) (i := i) (by simp [show i < ws.length by omega])
      have : u1 = u := by
        have px : ic.toArray[i]? = some u := pu
        simp at px
        rw [px] at hu1
        exact (Option.some.inj hu1).symm
      subst this
      exact ⟨_, by simp [show i < ws.length by omega], ru1⟩
    have fresh : ObjOk X.prog X.w (upd H T (.tup [.int (lo + (i : Nat)), y', u'])) h' T (.tup [.int (lo + (i : Nat)), y', u']) := ⟨by show 3 ≤ sizeLine; decide, [.int (lo + (i : Nat)) tx, y, u], .cons ⟨_, rfl⟩ (.cons ry (.cons ru .nil)), tt⟩
    have all : ∀ c o, c ∉ [z, ti, tp, i1, i2, i3] → s.heap.get? c = some o → h'.get? c = some o := fun c o nc q => kp c o (fun q' => nc (by simp only [List.mem_cons, List.not_mem_nil, or_false] at q' ⊢; rcases q' with h | h | h | h | h <;> simp [h])) q
    have J : Inv X pins σ (upd H T (.tup [.int (lo + (i : Nat)), y', u'])) { s with heap := h', toks := tk } := I.turnedNew (t' := tk) (ch := [z, ti, tp, i1, i2, i3]) all hf hT fresh
    refine ⟨.ref T, _, J, rfl, ⟨T, y', u', rfl, I.hok.fresh hT, rfl, fun l hl => by rw [seq_same I hl qb]; exact hy, fun l hl => by rw [seq_same I hl qc]; exact hu⟩, ⟨f1, f2, f3, f4, f5, f6⟩, fun c hc => ?_⟩
    have lt : c < s.heap.objs.size := by
      rcases sixR hc with q | q | q | q | q | q <;> rw [q]
      · exact Heap.lt_size e1
      · exact Heap.lt_size e2
      · exact Heap.lt_size e3
      · exact Heap.lt_size r1
      · exact r2.lt
      · exact r3.lt
    exact (upd_ne (Nat.ne_of_lt (Nat.lt_of_lt_of_le lt hT))).trans (hf c hc).1
  done := by
    rintro X hP hw hK hc i pins s σ H E I hf ⟨e1, e2, ⟨x0, y0, u0, e3⟩, r1, r2, r3⟩ ⟨vs, ws, qb, qc, hi⟩
    subst hP hw hK
    obtain ⟨ib, vb, sb, lb⟩ := seq_at I qb
    obtain ⟨ic, vc, sc, lc⟩ := seq_at I qc
    have n2 := vb.length
    have n3 := vc.length
    have hh : X.A.in1.handled = none := I.ok.hd hc
    have W := GoesN.zip3 (prog := X.prog) (w := X.w) (A := X.A) (elts := elts) (x1 := n0) (pos := tpos) D (draws_rg hh i1 lo n) (draws2 hh k2 i2 b nb ib.toArray) (draws2 hh k3 i3 c nc ic.toArray)
    have hi' : i = min (min n ib.toArray.size) ic.toArray.size := by simp; omega
    subst hi'
    refine W.stops s _ E ⟨e1, e2, ⟨x0, y0, u0, e3⟩, r1, ⟨r2, sb⟩, r3, sc⟩ fun h' tk kp ht => ?_
    exact I.turnedL (t' := tk) (ch := [z, ti, tp, i1, i2, i3]) (fun c o nc q => kp c o (fun q' => nc (by simp only [List.mem_cons, List.not_mem_nil, or_false] at q' ⊢; rcases q' with h | h | h | h | h <;> simp [h])) q) hf
  self := fun A i s Q E st g => wpAny_pyIter_zip st.1 g
/-- zip(range(..), f, g) is walked: k2, k3 tell whether they are lists -/
def iZipR (K : PySem.W.Frag) (ta : TA) : TI := fun σ H R => ta σ H fun ws G => ∃ (k2 k3 : Bool) (p b c : Addr) (lo hi : Int) (vs zs : List V), ws = [.ref p, .ref b, .ref c] ∧ G p = some (.rng lo hi) ∧ (-(2 ^ 62) ≤ lo ∧ lo < 2 ^ 62 ∧ -(2 ^ 62) ≤ hi ∧ hi < 2 ^ 62) ∧ SqX k2 K G b vs ∧ SqX k3 K G c zs ∧ R (ItmR K lo (hi - lo).toNat k2 k3 b c) G
theorem pi_zipR {X : Cx} {e f g : Expr} {ta : TA} {p pos tpos : Pos} {elts : List Expr} {n : Nat} (hg : Gl X "zip") (hm : X.mg "zip" = none) (ha : PA X [e, f, g] ta) (hs : starEach [e, f, g] X.env = (false, eval e X.env) :: starEach [f, g] X.env) (hpl : (backTo pos (starEach [f, g] X.env)).any (·.1) = false) :
    PI X (.Tuple elts n tpos) (.Call (.Name "zip" p) [e, f, g] [] pos) (iZipR X.K ta) := by
  refine ⟨fun pins s σ H R I h => ?_⟩
  refine Call_ (ld_blt I hg hm PyProof.Rows.boot_zip (PyProof.Rows.callWith_type1 (thn (ha.run pos pins s σ H _ I h) fun us1 s1 ⟨ws, G, J, r, k2, k3, a, b, c, lo, hi, vs, zs, ew, qa, ⟨b1, b2, b3, b4⟩, qb, qc, q⟩ => ?_) hs hpl))
  subst ew
  cases r with
  | cons ra rr =>
  cases rr with
  | cons rb rr =>
  cases rr with
  | cons rc rr =>
  cases rr
  cases ra
  cases rb
  cases rc
  obtain ⟨t, u, v, sa⟩ := J.hok a _ qa
  obtain ⟨ib, vb, sb, lb⟩ := seq_at J qb
  obtain ⟨ic, vc, sc, lc⟩ := seq_at J qc
  refine zip_begins3 (begins_rg a lo hi t u v b1 b2 b3 b4) (begins2 k2 b ib.toArray) (begins2 k3 c ic.toArray) sa sb sc fun h' m1 m2 m3 m4 m5 m6 m7 m8 => ?_
  have J2 : Inv X pins σ G { s1 with heap := h' } := J.kept (t' := s1.toks) m8
  have fr : ∀ x, x ∈ [s1.heap.objs.size + 5, s1.heap.objs.size + 3, s1.heap.objs.size + 4, s1.heap.objs.size, s1.heap.objs.size + 1, s1.heap.objs.size + 2] → FpOk X pins G x := fun x hx => by
    have le : s1.heap.objs.size ≤ x := by
      rcases sixR hx with q | q | q | q | q | q <;> rw [q] <;> first | exact Nat.le_add_right _ _ | exact Nat.le_refl _
    exact J.fpOk le (J.hok.fresh le)
  have below : ∀ {x q : Addr}, x < s1.heap.objs.size → q ∈ [x] → q < s1.heap.objs.size := fun lx hq => by rw [List.mem_singleton.mp hq]; exact lx
  have st1 : IsRangeIter h' s1.heap.objs.size (lo + ((0 : Nat) : Int)) ((((hi - lo).toNat : Nat) : Int) - ((0 : Nat) : Int)) 1 := by
    have e1 : lo + ((0 : Nat) : Int) = lo := by simp
    have e2 : (((hi - lo).toNat : Nat) : Int) - ((0 : Nat) : Int) = Builtin.Range.rangeSize lo hi 1 := by rw [rangeSize_one]; split <;> omega
    rw [e1, e2]
    exact m4
  exact wpAny_pyIter_zip m1 ⟨_, _, _, _, G, rfl, J2, turn_R (zip_sep3 (fun _ h => (nomatch h)) (fun _ => below lb) (fun _ => below lc)) (Nat.ne_of_lt (Nat.lt_succ_of_lt lb)) (Nat.ne_of_lt (Nat.lt_succ_of_lt (Nat.lt_succ_of_lt lc))), ⟨m1, m2, ⟨_, _, _, m3⟩, st1, run2_of m5, run2_of m6⟩, fr, q⟩
end Tz
/-! zip of a range and two; list(range(..)), tuple(range(.., .., ..)); sorted(set - set), sorted(set & set). -/
namespace Py
open PySem PySem.Spec PyProof.Rows L2 Tc Tz Px
def rangeI (lo hi : Int) : List Int := (List.range (hi - lo).toNat).map fun i => lo + (i : Nat)
def SmallR (lo hi : Int) : Prop := 0 ≤ lo ∧ lo ≤ 16777216 ∧ 0 ≤ hi ∧ hi ≤ 16777216
section
variable {B : Bas} {X : Cx} {Γ : List Sl} {pos : Pos}
theorem its_zipR {k2 k3 : Bool} {K : PySem.W.Frag} {ke2 ke3 : List Sl → Prop} {Hs : Hp} {b c : Addr} {es fs : List PyData} {lo : Int} {m : Nat} (q : Pers K ke2 k2 Hs b es) (r : Pers K ke3 k3 Hs c fs) {n : Nat} (hn : n = min (min m es.length) fs.length) :
    Its (fun Γ => ke2 Γ ∧ ke3 Γ) Hs (ItmR K lo m k2 k3 b c) n (fun i => .tuple [.int (lo + (i : Nat)), nth es i, nth fs i]) := by
  subst hn
  refine ⟨fun H => ∃ vs ws, SqX k2 K H b vs ∧ SqX k3 K H c ws ∧ vs.length = es.length ∧ ws.length = fs.length, (ItmR K lo m k2 k3 b c).yld, ⟨?_, ?_, fun _ _ _ _ _ _ y => y⟩, ?_, ?_⟩
  · rintro i H hi ⟨vs, ws, q2, q3, l2, l3⟩
    exact ⟨vs, ws, q2, q3, by omega⟩
  · rintro H ⟨vs, ws, q2, q3, l2, l3⟩
    exact ⟨vs, ws, q2, q3, by omega⟩
  · rintro B2 Hs2 σ H Γ ⟨h2, h3⟩ s S
    obtain ⟨vs, q2, d2⟩ := q B2 Hs2 σ H Γ h2 s S
    obtain ⟨ws, q3, d3⟩ := r B2 Hs2 σ H Γ h3 s S
    exact ⟨vs, ws, q2, q3, d2.len, d3.len⟩
  · rintro B2 i Hs2 σ H Γ x H' hi ⟨h2, h3⟩ s S ⟨T, z, u, rfl, hc, rfl, g2, g3⟩
    obtain ⟨vs, q2, d2⟩ := q B2 Hs2 σ H Γ h2 s S
    obtain ⟨ws, q3, d3⟩ := r B2 Hs2 σ H Γ h3 s S
    obtain ⟨e, e2, v2⟩ := dvs_get' d2 (g2 vs q2)
    obtain ⟨g, e3, v3⟩ := dvs_get' d3 (g3 ws q3)
    obtain ⟨kk2, T'⟩ := S.new (o := .tup [.int (lo + (i : Nat)), z, u]) hc
    refine ⟨_, kk2, T', ?_⟩
    show Dv _ _ (.tuple [.int (lo + (i : Nat)), nth es i, nth fs i])
    rw [nth_at e2, nth_at e3]
    exact .tup (.inl upd_same) (.cons (.int _) (.cons (v2.mono kk2) (.cons (v3.mono kk2) .nil)))
theorem gi_zipR (k2 k3 : Bool) {x y : Str} {p p2 tpos pos2 : Pos} {e f g : Expr} {l elts : List Expr} {n1 : Nat} {φ : Nat → (Nat → PyData) → (List Sl → Prop) → List Sl → Prop} (hx : x = "zip") (hg : Gl X x) (hm : X.mg x = none) (hy : y = "range") (hg2 : Gl X y) (hm2 : X.mg y = none)
    (hr : starEach (e :: l) X.env = (false, eval e X.env) :: starEach l X.env) (hrp : (backTo pos2 (starEach l X.env)).any (·.1) = false)
    (hs : starEach [.Call (.Name y p2) (e :: l) [] pos2, f, g] X.env = (false, eval (.Call (.Name y p2) (e :: l) [] pos2) X.env) :: starEach [f, g] X.env) (hs2 : starEach [f, g] X.env = (false, eval f X.env) :: starEach [g] X.env) (hs3 : starEach [g] X.env = (false, eval g X.env) :: starEach [] X.env) (hpl : (backTo pos (starEach [f, g] X.env)).any (·.1) = false)
    (h : GA B X (e :: l) Γ fun ds Γ1 => ∃ lo hi : Int, ds = [.int lo, .int hi] ∧ SmallR lo hi ∧ GS B X k2 f Γ1 fun es ke2 Γ2 => GS B X k3 g Γ2 fun fs ke3 Γ3 => ke2 Γ3 ∧ ke3 Γ3 ∧ φ (min (min (hi - lo).toNat es.length) fs.length) (fun i => .tuple [.int (lo + (i : Nat)), nth es i, nth fs i]) (fun Γ => ke2 Γ ∧ ke3 Γ) Γ3) : GI B X (.Tuple elts n1 tpos) (.Call (.Name x p) [.Call (.Name y p2) (e :: l) [] pos2, f, g] [] pos) Γ φ := by
  subst hx
  subst hy
  intro Hs σ H R S go
  have args : ∀ (Q : List V → Hp → Prop), (∀ (a b c : Addr) lo hi es fs ke2 ke3 Γ2 Hs2 H2, Same Hs Hs2 → Sx B Hs2 σ H2 Γ2 → H2 a = some (.rng lo hi) → SmallR lo hi → Pers X.K ke2 k2 Hs2 b es → Pers X.K ke3 k3 Hs2 c fs → ke2 Γ2 → ke3 Γ2 → φ (min (min (hi - lo).toNat es.length) fs.length) (fun i => .tuple [.int (lo + (i : Nat)), nth es i, nth fs i]) (fun Γ => ke2 Γ ∧ ke3 Γ) Γ2 → Q [.ref a, .ref b, .ref c] H2) → taW X [.Call (.Name "range" p2) (e :: l) [] pos2, f, g] σ H Q := fun Q fin =>
    pa_of (pa_cons (pe_callTy cr_range2 hg2 hm2 (by decide +kernel) pa_W (he := hr) (hpl := hrp)) (pa_cons pe_W (pa_cons pe_W pa_nil hs3) hs2) hs) (show taW X (e :: l) σ H _ from h Hs σ H _ S fun ds Γ1 vs Hs1 H1 ⟨lo, hi, ed, sm, p1⟩ s1 S1 dv => by
      subst ed
      have ev := dvs_ints (ns := [lo, hi]) dv
      subst ev
      refine ⟨lo, hi, rfl, fun a ha => ?_⟩
      obtain ⟨kk, S2⟩ := S1.new (o := .rng lo hi) ha
      exact p1 _ σ _ _ S2 fun es ke2 Γ2 b Hs2 H2 p2 s2 S3 pr2 => p2 Hs2 σ H2 _ S3 fun fs ke3 Γ3 c Hs3 H3 ⟨h2, h3, p3⟩ s3 S4 pr3 => fin a b c lo hi es fs ke2 ke3 Γ3 Hs3 H3 (s1.trans (kk.trans (s2.trans s3))) S4 (S4.sub _ _ ((s2.trans s3) _ _ upd_same)) sm (pr2.mono s3) pr3 h2 h3 p3)
  exact pi_of (pi_zipR hg hm pa_W hs hpl) (args _ fun a b c lo hi es fs ke2 ke3 Γ2 Hs2 H2 s2 S2 ha ⟨b1, b2, b3, b4⟩ pr2 pr3 h2 h3 p2 => by
    obtain ⟨vs, q2, d2⟩ := pers_q pr2 S2 h2
    obtain ⟨ws, q3, d3⟩ := pers_q pr3 S2 h3
    exact ⟨k2, k3, a, b, c, lo, hi, vs, ws, rfl, ha, ⟨by omega, by omega, by omega, by omega⟩, q2, q3, go _ _ _ Γ2 _ Hs2 H2 p2 s2 S2 (its_zipR pr2 pr3 rfl)⟩)
variable {p p2 pos2 : Pos}
theorem dvs_rg {H : Hp} (lo hi : Int) : DvAll H (rgV lo hi) ((rangeI lo hi).map PyData.int) := by
  have : rgV lo hi = (rangeI lo hi).map V.int := by
    unfold rgV rangeI
    rw [List.map_map] <;> rfl
  rw [this]
  exact dvs_of_ints _
/-- list(range(a, b)) -/
theorem gf_listR (calm : X.calm = true) {x y : Str} {e f : Expr} {χ : List PyData → List Sl → Prop} (hx : x = "list") (hg : Gl X x) (hm : X.mg x = none) (hy : y = "range") (hg2 : Gl X y) (hm2 : X.mg y = none)
    (na : starEach [e, f] X.env = (false, eval e X.env) :: starEach [f] X.env) (nb : starEach [f] X.env = (false, eval f X.env) :: starEach [] X.env) (hp : (backTo pos2 (starEach [f] X.env)).any (·.1) = false)
    (hl : starEach [.Call (.Name y p2) [e, f] [] pos2] X.env = (false, eval (.Call (.Name y p2) [e, f] [] pos2) X.env) :: starEach [] X.env)
    (h : GE B X e Γ fun d Γ1 => ∃ lo : Int, d = .int lo ∧ GE B X f Γ1 fun d2 Γ2 => ∃ hi : Int, d2 = .int hi ∧ SmallR lo hi ∧ χ ((rangeI lo hi).map .int) Γ2) : GF B X (.Call (.Name x p) [.Call (.Name y p2) [e, f] [] pos2] [] pos) Γ χ := fun Hs σ H Q S g => by
  subst hx
  subst hy
  refine pe_of (pe_listRg calm hg hm (prg_2 hg2 hm2 pe_W pe_W na nb hp) hl) (show teW X e σ H _ from h Hs σ H _ S fun d Γ1 v1 Hs1 H1 ⟨lo, e1, h1⟩ s1 S1 q1 => show teW X f σ H1 _ from h1 Hs1 σ H1 _ S1 fun d2 Γ2 v2 Hs2 H2 ⟨hi, e2, ⟨b1, b2, b3, b4⟩, h2⟩ s2 S2 q2 => ?_)
  subst e1 e2
  cases q1
  cases q2
  refine ⟨lo, hi, rfl, rfl, RgOk.of_le b1 b4 b2 b3, fun l hl => ?_⟩
  obtain ⟨f1, n1, al⟩ := alone_new S2 hl
  exact g _ Γ2 l _ Hs2 _ h2 (s1.trans s2) (S2.aside hl) f1 n1 al upd_same (dvs_rg lo hi)
/-- sorted(set(a) - set(b)), a numbers of a row -/
theorem gf_ssub (calm : X.calm = true) {x y : Str} {p3 pos3 pos4 : Pos} {a b : Expr} {φ : List PyData → List Sl → Prop} (hx : x = "sorted") (hg : Gl X x) (hm : X.mg x = none) (hy : y = "set") (hg2 : Gl X y) (hm2 : X.mg y = none)
    (ha : starEach [a] X.env = (false, eval a X.env) :: starEach [] X.env) (hb : starEach [b] X.env = (false, eval b X.env) :: starEach [] X.env)
    (he : starEach [.BinOp (.Call (.Name y p2) [a] [] pos2) .Sub (.Call (.Name y p3) [b] [] pos3) pos4] X.env = (false, eval (.BinOp (.Call (.Name y p2) [a] [] pos2) .Sub (.Call (.Name y p3) [b] [] pos3) pos4) X.env) :: starEach [] X.env)
    (h : GE B X a Γ fun d Γ1 => ∃ (ns : List Int) (lo : Int), d = .list (ns.map .int) ∧ ns.Nodup ∧ ns.length ≤ 64 ∧ 0 ≤ lo ∧ lo + ns.length < 2 ^ 30 ∧ (∀ k ∈ ns, lo ≤ k ∧ k < lo + ns.length) ∧
      GE B X b Γ1 fun d2 Γ2 => ∃ ms : List Int, d2 = .list (ms.map .int) ∧ ms.length ≤ 4000 ∧ ∀ gs : List Int, gs.Pairwise (· < ·) → (∀ k, k ∈ gs ↔ k ∈ ns ∧ k ∉ ms) → φ (gs.map .int) Γ2) :
    GF B X (.Call (.Name x p) [.BinOp (.Call (.Name y p2) [a] [] pos2) .Sub (.Call (.Name y p3) [b] [] pos3) pos4] [] pos) Γ φ := fun Hs σ H Q S g => by
  subst hx
  subst hy
  refine pe_of (pe_callB (cr_sortedN calm) hg hm (by decide +kernel) (pa_cons (pe_op op_ssub (pe_callTy (cr_setL calm) hg2 hm2 (by decide +kernel) (pa_cons pe_W pa_nil ha) (he := ha)) (pe_callTy (cr_setL calm) hg2 hm2 (by decide +kernel) (pa_cons pe_W pa_nil hb) (he := hb))) pa_nil he) (he := he)) ?_
  refine show teW X a σ H _ from h Hs σ H _ S fun d Γ1 v Hs1 H1 ⟨ns, lo, e, nd, l64, lo0, lo1, hk, k⟩ s1 S1 q1 => ?_
  subst e
  cases q1 with
  | @lst p0 vs _ r dv =>
    have r1 := rd_up S1.sub r
    rw [dvs_ints dv] at r1
    refine ⟨p0, ns, rfl, rdL (K := X.K) r1, by show ns.length + 1 < 4096; omega, fun q c L hq nod lc mem => ?_⟩
    obtain ⟨kk, S2⟩ := S1.new (o := SetO X.w q (fun j => decide (j ∈ ns)) c) hq
    have ec : c = ns.length := by
      rw [← lc]
      exact ((List.perm_ext_iff_of_nodup nod nd).mpr mem).length_eq
    refine show teW X b σ _ _ from k _ σ _ _ S2 fun d2 Γ2 v2 Hs2 H2 ⟨ms, e2, l2, fin⟩ s2 S3 q2 => ?_
    subst e2
    cases q2 with
    | @lst p1 vs2 _ r2 dv2 =>
      have r3 := rd_up S3.sub r2
      rw [dvs_ints dv2] at r3
      refine ⟨p1, ms, rfl, rdL (K := X.K) r3, by show ms.length + 1 < 4096; omega, fun q3 c3 L3 hq3 nod3 lc3 mem3 => ?_⟩
      have hq' := S3.sub _ _ (s2 _ _ (upd_same (H := Hs1) (a := q) (o := SetO X.w q (fun j => decide (j ∈ ns)) c)))
      obtain ⟨f1, n1, al1⟩ := alone_new S3 hq3
      have S4 := S3.aside (o := SetO X.w q3 (fun j => decide (j ∈ ms)) c3) hq3
      refine ⟨q, q3, _, _, c, c3, lo, rfl, rfl, (upd_ne (ne_new hq3 hq')).trans hq', upd_same, by omega, lo0, by omega, fun k hkk => ?_, fun q4 c4 hq4 => ?_⟩
      · have := hk k (of_decide_eq_true hkk)
        omega
      have S5 := S4.aside (o := SetO X.w q4 (fun k => decide (k ∈ ns) && !decide (k ∈ ms)) c4) hq4
      refine ⟨q4, _, c4, rfl, upd_same, fun gs q5 so mm lm hq5 => ?_⟩
      obtain ⟨f5, n5, al5⟩ := alone_new S5 hq5
      exact g _ Γ2 q5 _ Hs2 _ (fin gs so fun k => (mm k).trans (by simp)) (s1.trans (kk.trans s2)) (S5.aside hq5) f5 n5 al5 upd_same (dvs_of_ints _)
end
end Py
/-! tuple(range(a, b, c)) -/
namespace Tz
open PySem PySem.Spec PyProof.Rows L2
section
variable {X : Cx}
theorem prg_3 {a b c : Expr} {ta : TA} {p pos : Pos} (hg : Gl X "range") (hm : X.mg "range" = none) (ha : PA X [a, b, c] ta) (hs : starEach [a, b, c] X.env = (false, eval a X.env) :: starEach [b, c] X.env) (hpl : (backTo pos (starEach [b, c] X.env)).any (·.1) = false)
    (pins : List (Addr × Obj)) (s : Shared) (σ : L2.St) (H : Hp) (Q : Int → Int → Nat → Hp → Prop) (I : Inv X pins σ H s) (h : ta σ H fun vs H1 => ∃ (i j d : Int) (n : Nat), vs = [.int i, .int j, .int d] ∧ RgC i j d n ∧ Q i d n H1) :
    wpAny (model X.prog X.w) X.A (eval (.Call (.Name "range" p) [a, b, c] [] pos) X.env) (fun x s' => ∃ r i j d n t u v H', x = .ref r ∧ IsRange s'.heap r i j d t u v ∧ RgC i j d n ∧ Inv X pins σ H' s' ∧ Q i d n H') X.xe s := by
  refine Call_ (ld_blt I hg hm boot_range (PyProof.Rows.callWith_type1 (thn (ha.run pos pins s σ H _ I h) fun us s1 ⟨vs, H1, I1, r1, q1⟩ => ?_) hs hpl))
  obtain ⟨i, j, d, n, e, rc, q⟩ := q1
  obtain ⟨c0, c1, c2, c3⟩ := id rc
  subst e
  cases r1 with
  | cons r rr =>
    cases rr with
    | cons r' rr =>
      cases rr with
      | cons r'' rr =>
        cases rr
        obtain ⟨t, rfl⟩ := r
        obtain ⟨t', rfl⟩ := r'
        obtain ⟨t'', rfl⟩ := r''
        refine call_range_3 c0 ?_ (.inl (PyProof.noPylong_small c1))
        exact ⟨_, i, j, d, n, _, _, _, H1, rfl, IsRange.new .., rc, I1.kept (t' := s1.toks) fun b o e => Heap.get?_push_of_some _ e, q⟩
def tTupR3 (ta : TA) : TE := fun σ H Q => ta σ H fun vs H1 => ∃ (i j d : Int) (n : Nat), vs = [.int i, .int j, .int d] ∧ RgC i j d n ∧ n ≤ 2 ^ 24 ∧ ∀ q, H1 q = none → Q (.ref q) (upd H1 q (.tup ((List.range n).map fun m => V.int (i + (m : Nat) * d))))
theorem pe_tupR3 {a b c : Expr} {ta : TA} {p p2 pos pos2 : Pos} (hc : X.calm = true) (hg0 : Gl X "tuple") (hm0 : X.mg "tuple" = none) (hg : Gl X "range") (hm : X.mg "range" = none) (ha : PA X [a, b, c] ta) (hs : starEach [a, b, c] X.env = (false, eval a X.env) :: starEach [b, c] X.env) (hpl : (backTo pos2 (starEach [b, c] X.env)).any (·.1) = false)
    (na : starEach [.Call (.Name "range" p2) [a, b, c] [] pos2] X.env = (false, eval (.Call (.Name "range" p2) [a, b, c] [] pos2) X.env) :: starEach [] X.env) : PE X (.Call (.Name "tuple" p) [.Call (.Name "range" p2) [a, b, c] [] pos2] [] pos) (tTupR3 ta) := by
  refine ⟨fun pins s σ H Q I h => ?_⟩
  have h2 : ta σ H fun vs H1 => ∃ (i j d : Int) (n : Nat), vs = [.int i, .int j, .int d] ∧ RgC i j d n ∧ (n ≤ 2 ^ 24 ∧ ∀ q, H1 q = none → Q (.ref q) (upd H1 q (.tup ((List.range n).map fun m => V.int (i + (m : Nat) * d))))) := h
  refine Call_ (ld_blt I hg0 hm0 boot_tuple (PyProof.Rows.callWith_type1 (args_cons (thn (prg_3 hg hm ha hs hpl pins s σ H (fun i d n H1 => n ≤ 2 ^ 24 ∧ ∀ q, H1 q = none → Q (.ref q) (upd H1 q (.tup ((List.range n).map fun m => V.int (i + (m : Nat) * d))))) I h2) fun x s1 ⟨r, i, j, d, n, t, u, v, H1, ex, hr, rc, I1, ok, q⟩ => args_nil ?_) na) na))
  subst ex
  obtain ⟨c0, c1, c2, c3⟩ := rc
  refine call_tuple_range (n := n) (I1.ok.hd hc) hr c2 c3 ok fun h' tk acc hk hi => ?_
  have I2 : Inv X pins σ H1 { s1 with heap := h', toks := tk } := I1.kept hk
  have e : acc.toList.length = n := by rw [Array.length_toList]; exact hi.1
  have vl : Vals ((List.range n).map fun m => V.int (i + (m : Nat) * d)) acc.toList := by
    rw [← e]
    refine vals_of_get acc.toList _ fun j u hj => ?_
    obtain ⟨t, rfl⟩ := hi.2 j u (by rw [← hj, Array.getElem?_toList])
    exact ⟨t, rfl⟩
  refine ⟨.ref h'.objs.size, upd H1 h'.objs.size (.tup _), I2.laid (t' := tk) (fun c o e => Heap.get?_push_of_some _ e) (Nat.le_refl _) (show ObjOk X.prog X.w _ _ _ (.tup _) from ⟨?_, acc.toList, vl, ?_⟩), rfl, q _ (I2.hok.fresh (Nat.le_refl _))⟩
  · rw [List.length_map, List.length_range, sizeLine_eq]; omega
  · rw [Array.toArray_toList]; exact IsTup.new _ _
end
end Tz
/-! tuple(range(f, m + 1, f)): the multiples -/
namespace Py
open PySem PySem.Spec PyProof.Rows L2 Tc Tz Px
theorem rgc_mult {f m : Int} (f1 : 1 ≤ f) (fm : f ≤ m) (hm : m ≤ 100000) : RgC f (m + 1) f (m / f).toNat := by
  have sz : Builtin.Range.rangeSize f (m + 1) f = m / f := by
    unfold Builtin.Range.rangeSize
    rw [if_pos (by omega), if_pos (by omega)]
    have : (m + 1 - f - 1) / f = m / f - 1 := by
      have : m + 1 - f - 1 = m + f * (-1) := by omega
      rw [this, Int.add_mul_ediv_left _ _ (by omega)]
      omega
    omega
  have q0 : 0 ≤ m / f := Int.ediv_nonneg (by omega) (by omega)
  have q1 : m / f ≤ m := Int.ediv_le_self _ (by omega)
  refine ⟨by omega, by omega, ?_, by rw [sz]; omega⟩
  unfold Builtin.Range.small
  rw [sz]
  unfold Builtin.Range.rangeFitsLong
  rw [if_pos (by omega)]
  simp only [Bool.and_eq_true, Bool.or_eq_true, decide_eq_true_eq]
  refine ⟨⟨⟨⟨?_, ?_⟩, ?_⟩, ?_⟩, .inr ?_⟩ <;> omega
def multI (f m : Int) : List Int := (List.range (m / f).toNat).map fun i : Nat => f + (i : Int) * f
section
variable {B : Bas} {X : Cx} {Γ : List Sl} {pos p p2 pos2 : Pos}
theorem ge_tupR3 (calm : X.calm = true) {x y : Str} {a b c : Expr} {φ : PyData → List Sl → Prop} (hx : x = "tuple") (hg0 : Gl X x) (hm0 : X.mg x = none) (hy : y = "range") (hg : Gl X y) (hm : X.mg y = none) (hs : starEach [a, b, c] X.env = (false, eval a X.env) :: starEach [b, c] X.env) (hpl : (backTo pos2 (starEach [b, c] X.env)).any (·.1) = false)
    (na : starEach [.Call (.Name y p2) [a, b, c] [] pos2] X.env = (false, eval (.Call (.Name y p2) [a, b, c] [] pos2) X.env) :: starEach [] X.env)
    (h : GA B X [a, b, c] Γ fun ds Γ1 => ∃ f m : Int, ds = [.int f, .int (m + 1), .int f] ∧ 1 ≤ f ∧ f ≤ m ∧ m ≤ 100000 ∧ φ (.tuple ((multI f m).map .int)) Γ1) : GE B X (.Call (.Name x p) [.Call (.Name y p2) [a, b, c] [] pos2] [] pos) Γ φ := fun Hs σ H Q S g => by
  subst hx
  subst hy
  refine pe_of (pe_tupR3 calm hg0 hm0 hg hm pa_W hs hpl na) (show taW X [a, b, c] σ H _ from h Hs σ H _ S fun ds Γ1 vs Hs1 H1 ⟨f, m, ed, f1, fm, m1, p1⟩ s1 S1 dv => ?_)
  subst ed
  have ev := dvs_ints (ns := [f, m + 1, f]) dv
  subst ev
  have q1 : m / f ≤ m := Int.ediv_le_self _ (by omega)
  refine ⟨f, m + 1, f, (m / f).toNat, rfl, rgc_mult f1 fm m1, by omega, fun q hq => ?_⟩
  obtain ⟨kk, S2⟩ := S1.new (o := .tup ((List.range (m / f).toNat).map fun i => V.int (f + (i : Nat) * f))) hq
  refine g _ Γ1 _ _ _ p1 (s1.trans kk) S2 (.tup (.inl upd_same) ?_)
  have : (List.range (m / f).toNat).map (fun i : Nat => V.int (f + (i : Int) * f)) = (multI f m).map V.int := by
    unfold multI
    rw [List.map_map] <;> rfl
  rw [this]
  exact dvs_of_ints _
end
end Py
/-! A list of lambdas of any length, of any names; a comprehension that calls a def with each of them. -/
namespace Py
open PySem PySem.Spec PyProof.Rows L2 Tc Px
open LamX (LamS lamCx lamEnv TabB Tabs CodeO)
/-! ### the cells of some names -/
/-! ### what a lambda sees -/
/-- slots of which some are left out -/
def MaskOk : List Sl → List Sl → Prop
  | [], [] => True
  | a :: r, b :: t => (a = .no ∨ (a = b ∧ ∃ x, a = .d x)) ∧ MaskOk r t
  | _, _ => False
theorem MaskOk.len : ∀ {Γ Δ : List Sl}, MaskOk Γ Δ → Γ.length = Δ.length
  | [], [], _ => rfl
  | a :: r, b :: t, h => by rw [List.length_cons, List.length_cons, MaskOk.len h.2]
  | [], _ :: _, h => h.elim
  | _ :: _, [], h => h.elim
theorem MaskOk.at_ : ∀ {Γ Δ : List Sl}, MaskOk Γ Δ → ∀ (i : Nat) (s : Sl), Γ[i]? = some s → s = .no ∨ (Δ[i]? = some s ∧ ∃ x, s = .d x)
  | [], [], _, i, s, e => by cases e
  | a :: r, b :: t, h, 0, s, e => by
      cases e
      rcases h.1 with z | ⟨z, y⟩
      · exact .inl z
      · exact .inr ⟨congrArg some z.symm, y⟩
  | a :: r, b :: t, h, i + 1, s, e => MaskOk.at_ (Γ := r) (Δ := t) h.2 i s e
  | [], _ :: _, h, _, _, _ => h.elim
  | _ :: _, [], h, _, _, _ => h.elim
/-! ### the list is made -/
abbrev LamSpec := Arguments × Expr × Scope
def LamsAt (X : Cx) (H : Hp) : List V → List LamSpec → Prop
  | [], [] => True
  | v :: vs, l :: ls => (∃ (f c : Addr) (pm ct : Value), v = .ref f ∧ H f = some (ObO f (lamO X l.1 l.2.1 l.2.2 pm c ct)) ∧ H c = some (CodeO c (lamQ X))) ∧ LamsAt X H vs ls
  | _, _ => False
theorem LamsAt.len {X : Cx} {H : Hp} : ∀ {vs : List V} {ls : List LamSpec}, LamsAt X H vs ls → vs.length = ls.length
  | [], [], _ => rfl
  | _ :: vs, _ :: ls, h => by rw [List.length_cons, List.length_cons, LamsAt.len h.2]
  | [], _ :: _, h => h.elim
  | _ :: _, [], h => h.elim
theorem LamsAt.keep {X : Cx} {H H2 : Hp} (k : ∀ b o, H b = some o → (∀ xs, o ≠ .lst xs) → (∀ ps, o ≠ .tbl ps) → H2 b = some o) : ∀ {vs : List V} {ls : List LamSpec}, LamsAt X H vs ls → LamsAt X H2 vs ls
  | [], [], _ => trivial
  | _ :: vs, _ :: ls, h => by
      obtain ⟨⟨f, c, pm, ct, rfl, e1, e2⟩, h⟩ := h
      exact ⟨⟨f, c, pm, ct, rfl, k _ _ e1 (fun _ z => by unfold ObO at z; cases z) (fun _ z => by unfold ObO at z; cases z), k _ _ e2 (fun _ z => by unfold CodeO at z; cases z) (fun _ z => by unfold CodeO at z; cases z)⟩, LamsAt.keep k h⟩
  | [], _ :: _, h => h.elim
  | _ :: _, [], h => h.elim
theorem LamsAt.snoc {X : Cx} {H : Hp} {v : V} {l : LamSpec} (hv : ∃ (f c : Addr) (pm ct : Value), v = .ref f ∧ H f = some (ObO f (lamO X l.1 l.2.1 l.2.2 pm c ct)) ∧ H c = some (CodeO c (lamQ X))) : ∀ {vs : List V} {ls : List LamSpec}, LamsAt X H vs ls → LamsAt X H (vs ++ [v]) (ls ++ [l])
  | [], [], _ => ⟨hv, trivial⟩
  | _ :: vs, _ :: ls, h => ⟨h.1, LamsAt.snoc hv h.2⟩
  | [], _ :: _, h => h.elim
  | _ :: _, [], h => h.elim
/-! ### x = [h(y) for y in z], z a list of lambdas -/
end Py
/-! A dict by texts that a def makes for itself, changes and reads. -/
namespace Py
open PySem PySem.Spec PyProof.Rows L2 Tc Px
def DK (Hs : Hp) : List (Key × V) → List (Str × PyData) → Prop
  | [], [] => True
  | p :: r, q :: t => p.1 = Sum.inr q.1 ∧ Dv Hs p.2 q.2 ∧ DK Hs r t
  | _, _ => False
def getS (ks : List (Str × PyData)) (z : Str) : Option PyData := match ks with
  | [] => none
  | q :: t => if decide (q.1 = z) = true then some q.2 else getS t z
theorem DK.mono {Hs Hs2 : Hp} (s : Same Hs Hs2) : ∀ {kvs : List (Key × V)} {ks : List (Str × PyData)}, DK Hs kvs ks → DK Hs2 kvs ks
  | [], [], _ => trivial
  | p :: r, q :: t, h => ⟨h.1, h.2.1.mono s, DK.mono s h.2.2⟩
  | [], _ :: _, h => h.elim
  | _ :: _, [], h => h.elim
theorem DK.len {Hs : Hp} : ∀ {kvs : List (Key × V)} {ks : List (Str × PyData)}, DK Hs kvs ks → kvs.length = ks.length
  | [], [], _ => rfl
  | p :: r, q :: t, h => by rw [List.length_cons, List.length_cons, DK.len h.2.2]
  | [], _ :: _, h => h.elim
  | _ :: _, [], h => h.elim
theorem DK.snoc {Hs : Hp} {p : Key × V} {q : Str × PyData} (e : p.1 = Sum.inr q.1) (d : Dv Hs p.2 q.2) : ∀ {kvs : List (Key × V)} {ks : List (Str × PyData)}, DK Hs kvs ks → DK Hs (kvs ++ [p]) (ks ++ [q])
  | [], [], _ => ⟨e, d, trivial⟩
  | _ :: _, _ :: _, h => ⟨h.1, h.2.1, DK.snoc e d h.2.2⟩
  | [], _ :: _, h => h.elim
  | _ :: _, [], h => h.elim
theorem DK.get {Hs : Hp} {z : Str} : ∀ {kvs : List (Key × V)} {ks : List (Str × PyData)}, DK Hs kvs ks → (getS ks z = none → valV kvs (Sum.inr z : Key) = none) ∧ ∀ d, getS ks z = some d → ∃ v, valV kvs (Sum.inr z : Key) = some v ∧ Dv Hs v d
  | [], [], _ => ⟨fun _ => rfl, fun d h => (nomatch h)⟩
  | p :: r, q :: t, h => by
      obtain ⟨h1, h2, h3⟩ := h
      obtain ⟨g1, g2⟩ := DK.get (z := z) h3
      unfold getS
      by_cases e : q.1 = z
      · rw [if_pos (decide_eq_true e)]
        refine ⟨fun h => (nomatch h), fun d hd => ?_⟩
        cases hd
        exact ⟨p.2, valV_pos (by rw [h1, e]), h2⟩
      · rw [if_neg (by rw [decide_eq_false e]; decide), valV_neg (by rw [h1]; exact fun x => e (Sum.inr.inj x))]
        exact ⟨g1, g2⟩
  | [], _ :: _, h => h.elim
  | _ :: _, [], h => h.elim
end Py
/-! where the first True of a list stands -/
namespace Py
open PySem PySem.Spec PyProof.Rows L2 Tc Px
end Py
/-! x not in a list of texts, x a value of any kind. -/
namespace Py
open PySem PySem.Spec PyProof.Rows L2 Tc Tz Px
open PySem.SeqAt
end Py
/-! x not in a sequence of plain things, as a value -/
namespace Py
open PySem PySem.Spec PyProof.Rows L2 Tc Px
end Py
/-! sorted(set(x)), x a list of small numbers -/
namespace Py
open PySem PySem.Spec PyProof.Rows L2 Tc Px
theorem asc_uniq : ∀ {a b : List Int}, a.Pairwise (· < ·) → b.Pairwise (· < ·) → (∀ k, k ∈ a ↔ k ∈ b) → a = b
  | [], [], _, _, _ => rfl
  | [], y :: b, _, _, h => absurd ((h y).mpr (.head _)) (fun z => nomatch z)
  | x :: a, [], _, _, h => absurd ((h x).mp (.head _)) (fun z => nomatch z)
  | x :: a, y :: b, p, q, h => by
    obtain ⟨p1, p2⟩ := List.pairwise_cons.mp p
    obtain ⟨q1, q2⟩ := List.pairwise_cons.mp q
    have e : x = y := by
      rcases List.mem_cons.mp ((h x).mp (.head _)) with e | m
      · exact e
      · rcases List.mem_cons.mp ((h y).mpr (.head _)) with e | m2
        · exact e.symm
        · have h1 := q1 x m
          have h2 := p1 y m2
          omega
    subst e
    refine congrArg (x :: ·) (asc_uniq p2 q2 fun k => ⟨fun m => ?_, fun m => ?_⟩)
    · rcases List.mem_cons.mp ((h k).mp (.tail _ m)) with e | m2
      · have := p1 k m
        omega
      · exact m2
    · rcases List.mem_cons.mp ((h k).mpr (.tail _ m)) with e | m2
      · have := q1 k m
        omega
      · exact m2
end Py
/-! count and index in a list of ints -/
namespace Py
open PySem PySem.Spec PyProof.Rows L2 Tc Px
section
variable {B : Bas} {X : Cx} {Γ : List Sl} {pos ap : Pos} {φ : PyData → List Sl → Prop} {a b : Expr}
theorem ge_lcountI (h : GE B X a Γ fun d Γ1 => ∃ l : List Int, d = .list (l.map .int) ∧ GE B X b Γ1 fun d2 Γ2 => ∃ y : Int, d2 = .int y ∧ φ (.int (l.count y : Nat)) Γ2)
    (hb : attributeBase a "count" X.env (eval a X.env) = eval a X.env) (hf : Few X pos b []) (hl : (ap.endLine == pos.line) = true) (hs : starEach [b] X.env = (false, eval b X.env) :: starEach [] X.env) : GE B X (.Call (.Attribute a "count" ap) [b] [] pos) Γ φ := fun Hs σ H Q S g =>
  pe_of (pe_bm PySem.F.plainAttrs_list PySem.F.slot_list_count PySem.F.type_list_count mt_lcount pe_W (pa_cons pe_W pa_nil hs) hb hf hl hs rfl) (h Hs σ H _ S fun d Γ1 v Hs1 H1 ⟨l, e, p⟩ s1 S1 q1 => by
    subst e
    cases q1 with
    | @lst p0 vs _ r dv =>
      have ev := dvs_ints dv
      subst ev
      refine ⟨.inl ⟨rfl, _, rdL (K := X.K) (rd_up S1.sub r)⟩, show teW X b σ H1 _ from p Hs1 σ H1 _ S1 fun d2 Γ2 w Hs2 H2 ⟨y, e2, p2⟩ s2 S2 q2 => ?_⟩
      subst e2
      cases q2
      exact ⟨p0, l, y, rfl, rfl, rdL (K := X.K) (rd_up S2.sub (rd_up s2 r)), g _ Γ2 _ Hs2 H2 p2 (s1.trans s2) S2 (.int _)⟩)
theorem ints_flat : ∀ l : List Int, (l.map V.int).all flatV = true
  | [] => rfl
  | _ :: r => by rw [List.map_cons, List.all_cons, ints_flat r] <;> rfl
theorem eqV_int {x y : Int} : eqV (.int x) (.int y) = decide (x = y) := by
  by_cases e : x = y
  · subst e
    rw [decide_eq_true rfl]
    show (_ : Bool) = true
    simp [eqV]
  · rw [decide_eq_false e]
    simp [eqV, e]
theorem ge_lindexI (h : GE B X a Γ fun d Γ1 => ∃ l : List Int, d = .list (l.map .int) ∧ GE B X b Γ1 fun d2 Γ2 => ∃ (y : Int) (n : Nat), d2 = .int y ∧ l[n]? = some y ∧ (∀ m z, m < n → l[m]? = some z → z ≠ y) ∧ φ (.int (n : Int)) Γ2)
    (hb : attributeBase a "index" X.env (eval a X.env) = eval a X.env) (hf : Few X pos b []) (hl : (ap.endLine == pos.line) = true) (hs : starEach [b] X.env = (false, eval b X.env) :: starEach [] X.env) : GE B X (.Call (.Attribute a "index" ap) [b] [] pos) Γ φ := fun Hs σ H Q S g =>
  pe_of (pe_bm PySem.F.plainAttrs_list PySem.F.slot_list_index PySem.F.type_list_index mt_index pe_W (pa_cons pe_W pa_nil hs) hb hf hl hs rfl) (h Hs σ H _ S fun d Γ1 v Hs1 H1 ⟨l, e, p⟩ s1 S1 q1 => by
    subst e
    cases q1 with
    | @lst p0 vs _ r dv =>
      have ev := dvs_ints dv
      subst ev
      refine ⟨.inl ⟨rfl, _, rdL (K := X.K) (rd_up S1.sub r)⟩, show teW X b σ H1 _ from p Hs1 σ H1 _ S1 fun d2 Γ2 w Hs2 H2 ⟨y, n, e2, hi, hm, p2⟩ s2 S2 q2 => ?_⟩
      subst e2
      cases q2
      refine ⟨p0, l.map V.int, .int y, n, .int y, rfl, rfl, rdL (K := X.K) (rd_up S2.sub (rd_up s2 r)), rfl, ints_flat l, by rw [List.getElem?_map, hi] <;> rfl, by rw [eqV_int, decide_eq_true rfl], fun m z hlt ez => ?_, g _ Γ2 _ Hs2 H2 p2 (s1.trans s2) S2 (.int _)⟩
      rw [List.getElem?_map] at ez
      cases q : l[m]? with
      | none => rw [q] at ez; cases ez
      | some t =>
        rw [q] at ez
        cases ez
        rw [eqV_int]
        exact decide_eq_false (hm m t hlt q))
end
end Py
/-! x is True, x is not False, of truths -/
namespace Py
open PySem PySem.Spec PyProof.Rows L2 Tc Px
def IsBD (d1 d2 : PyData) (k : Bool → Prop) : Prop := ∃ a b : Bool, d1 = .bool a ∧ d2 = .bool b ∧ k (decide (a = b))
def NotBD (d1 d2 : PyData) (k : Bool → Prop) : Prop := ∃ a b : Bool, d1 = .bool a ∧ d2 = .bool b ∧ k (!decide (a = b))
theorem sem_isB (d1 d2 : PyData) (k : Bool → Prop) (h : IsBD d1 d2 k) : Cmp2 (fun x y H Q => ∃ a b, x = .bl a ∧ y = .bl b ∧ Q (.bl (decide (a = b))) H) d1 d2 k := fun H v1 v2 Q q1 q2 g => by
  obtain ⟨a, b, rfl, rfl, hk⟩ := h
  cases q1
  cases q2
  exact ⟨a, b, rfl, rfl, g _ hk⟩
theorem sem_notB (d1 d2 : PyData) (k : Bool → Prop) (h : NotBD d1 d2 k) : Cmp2 (fun x y H Q => ∃ a b, x = .bl a ∧ y = .bl b ∧ Q (.bl (!decide (a = b))) H) d1 d2 k := fun H v1 v2 Q q1 q2 g => by
  obtain ⟨a, b, rfl, rfl, hk⟩ := h
  cases q1
  cases q2
  exact ⟨a, b, rfl, rfl, g _ hk⟩
section
variable {B : Bas} {X : Cx} {Γ : List Sl} {pos : Pos} {a b : Expr} {φ : PyData → List Sl → Prop} {ψ : Bool → List Sl → Prop}
theorem ge_isB (h : GE B X a Γ fun d1 Γ1 => GB B X b Γ1 fun d2 Γ2 => IsBD d1 d2 fun c => φ (.bool c) Γ2) : GE B X (.Compare a [.Is] [b] pos) Γ φ := ge_cmp op_is_bl IsBD sem_isB (nomark _) h
theorem gt_notB (h : GE B X a Γ fun d1 Γ1 => GB B X b Γ1 fun d2 Γ2 => NotBD d1 d2 fun c => ψ c Γ2) : GT B X (.Compare a [.IsNot] [b] pos) Γ ψ := gt_cmp op_isnot_bl NotBD sem_notB (nomark _) h
end
end Py
section
open PySem PySem.Spec PyProof.Rows L2 Tc Px Py
local macro_rules | `(tactic| fail "x1GI0") => `(tactic| first
  | ((with_reducible show GI _ _ _ (Expr.Call (Expr.Name "enumerate" _) _ _ _) _ _); (with_reducible apply gi_enumT); (eq_refl); (eq_refl); (exact Gls.enumerate (by assumption)); (eq_refl))
  )
local macro_rules | `(tactic| fail "x1GI1") => `(tactic| first
  | ((with_reducible show GI _ _ _ (Expr.Call (Expr.Name "range" _) [_] _ _) _ _); (with_reducible apply gi_rg1); (with_reducible eq_refl); (eq_refl); (exact Gls.range (by assumption)); rotate_left; (eq_refl))
  )
local macro_rules | `(tactic| fail "x1GI2") => `(tactic| first
  | ((with_reducible show GI _ _ _ (Expr.Call (Expr.Name "range" _) [_, _] _ _) _ _); (with_reducible apply gi_rg2); (with_reducible eq_refl); (eq_refl); (exact Gls.range (by assumption)); rotate_left; (eq_refl); (eq_refl))
  )
local macro_rules | `(tactic| fail "x1GI") => `(tactic| first
  | ((with_reducible show GI _ _ _ (Expr.Call (Expr.Name "enumerate" _) _ _ _) _ _); fail "x1GI0")
  | ((with_reducible show GI _ _ _ (Expr.Call (Expr.Name "range" _) [_] _ _) _ _); fail "x1GI1")
  | ((with_reducible show GI _ _ _ (Expr.Call (Expr.Name "range" _) [_, _] _ _) _ _); fail "x1GI2")
  | (with_reducible refine gi_seq ?_)
  )
local macro_rules | `(tactic| fail "x1GA") => `(tactic| first
  | ((with_reducible show GA _ _ (Expr.Starred (Expr.ListComp _ _ _ _) _ :: _) _ _); (with_reducible apply ga_star true); rotate_left; (eq_refl))
  | ((with_reducible show GA _ _ (Expr.Starred (Expr.Subscript _ _ _) _ :: _) _ _); (with_reducible apply ga_star true); rotate_left; (eq_refl))
  | ((with_reducible show GA _ _ (_ :: _) _ _); (with_reducible apply ga_cons); rotate_left; (exact star_cons rfl))
  | (with_reducible refine ga_nil ?_)
  )
local macro_rules | `(tactic| fail "x1GQ") => `(tactic| first
  | ((with_reducible show GQ _ _ true (Expr.Subscript _ (Expr.Slice none none (some _) _) _) _ _); (with_reducible refine gq_ofF ?_))
  | ((with_reducible show GQ _ _ _ (Expr.Name _ _) _ _); (with_reducible apply name_q); (eq_refl); (eq_refl); (eq_refl); rotate_left; (decide); (decide))
  | ((with_reducible show GQ _ _ true (Expr.List _ _) _ _); (with_reducible refine gq_ofF ?_))
  | ((with_reducible show GQ _ _ true (Expr.ListComp _ _ _ _) _ _); (with_reducible refine gq_ofF ?_))
  | ((with_reducible show GQ _ _ true (Expr.BinOp _ _ _ _) _ _); (with_reducible refine gq_ofF ?_))
  | ((with_reducible show GQ _ _ true (Expr.Call _ _ _ _) _ _); (with_reducible refine gq_ofF ?_))
  )
local macro_rules | `(tactic| fail "x1GE3") => `(tactic| first
  | ((with_reducible show GE _ _ (Expr.Call (Expr.Name "isinstance" _) [_, Expr.Name _ _] _ _) _ _); (with_reducible apply ge_isC); (case k => with_reducible assumption); (exact ⟨rfl, rfl, rfl, rfl, rfl⟩); (assumption); (eq_refl); (eq_refl); (exact Gls.isinstance (by assumption)); (eq_refl); rotate_left; (exact star_cons rfl); (exact star_cons rfl); (eq_refl); (decide))
  )
local macro_rules | `(tactic| fail "x1GE4") => `(tactic| first
  | ((with_reducible show GE _ _ (Expr.Call (Expr.Name _ _) (_ :: _) [] _) _ _); (with_reducible apply ge_make); (case M => with_reducible assumption); (exact ⟨rfl, rfl, rfl, rfl, rfl⟩); (first | with_reducible assumption | exact Bod.toCxt (by with_reducible assumption) | exact Cxt.blk (Bod.toCxt (by with_reducible assumption)) _ _ _ _ _ _ | exact Cxt.blk (Cxt.blk (Bod.toCxt (by with_reducible assumption)) _ _ _ _ _ _) _ _ _ _ _ _); (eq_refl); (eq_refl); (first | with_reducible assumption | exact Exc.none); rotate_left; (decide); (exact star_cons rfl); (eq_refl))
  )
local macro_rules | `(tactic| fail "x1GE5") => `(tactic| first
  | ((with_reducible show GE _ _ (Expr.Call (Expr.Name _ _) [] (_ :: _) _) _ _); (with_reducible apply ge_callR); (case F => with_reducible assumption); (exact ⟨rfl, rfl, rfl, rfl, rfl⟩); (first | with_reducible assumption | exact Bod.toCxt (by with_reducible assumption) | exact Cxt.blk (Bod.toCxt (by with_reducible assumption)) _ _ _ _ _ _ | exact Cxt.blk (Cxt.blk (Bod.toCxt (by with_reducible assumption)) _ _ _ _ _ _) _ _ _ _ _ _); (eq_refl); (eq_refl); (first | with_reducible assumption | exact Exc.none); rotate_left; (decide); (eq_refl); (eq_refl); (eq_refl); (eq_refl))
  )
local macro_rules | `(tactic| fail "x1GE6") => `(tactic| first
  | ((with_reducible show GE _ _ (Expr.Attribute _ _ _) _ _); (with_reducible apply ge_prop); (case D => with_reducible assumption); (exact ⟨rfl, rfl, rfl, rfl, rfl⟩); (first | with_reducible assumption | exact Bod.toCxt (by with_reducible assumption) | exact Cxt.blk (Bod.toCxt (by with_reducible assumption)) _ _ _ _ _ _ | exact Cxt.blk (Cxt.blk (Bod.toCxt (by with_reducible assumption)) _ _ _ _ _ _) _ _ _ _ _ _); (eq_refl); rotate_left; (eq_refl))
  )
local macro_rules | `(tactic| fail "x1GE7") => `(tactic| first
  | (with_reducible refine ge_int ?_)
  | (with_reducible refine ge_str ?_)
  | (with_reducible refine ge_bool ?_)
  | (with_reducible refine ge_none ?_)
  )
local macro_rules | `(tactic| fail "x1GE8") => `(tactic| first
  | ((with_reducible show GE _ _ (Expr.Name _ _) _ _); (with_reducible apply name_e); (eq_refl); (eq_refl); (eq_refl); rotate_left; (decide); (decide))
  | ((with_reducible show GE _ _ (Expr.Name _ _) _ _); (with_reducible apply name_give); (eq_refl); (eq_refl); (eq_refl); rotate_left; (decide); (decide))
  | ((with_reducible show GE _ _ (Expr.Name _ _) _ _); (with_reducible apply num_e); (case hm => with_reducible assumption); (exact ⟨rfl, rfl, rfl, rfl, rfl⟩); (eq_refl); rotate_left; (decide))
  )
local macro_rules | `(tactic| fail "x1GE9") => `(tactic| first
  | (with_reducible refine ge_one ?_)
  | (with_reducible refine ge_and ?_)
  | (with_reducible refine ge_or ?_)
  )
local macro_rules | `(tactic| fail "x1GE10") => `(tactic| first
  | ((with_reducible show GE _ _ (Expr.Compare _ [CmpOp.Eq] _ _) _ _); (with_reducible apply ge_eq); (first | with_reducible assumption | exact Bod.toCxt (by with_reducible assumption) | exact Cxt.blk (Bod.toCxt (by with_reducible assumption)) _ _ _ _ _ _ | exact Cxt.blk (Cxt.blk (Bod.toCxt (by with_reducible assumption)) _ _ _ _ _ _) _ _ _ _ _ _))
  )
local macro_rules | `(tactic| fail "x1GE11") => `(tactic| first
  | (with_reducible refine ge_add ?_)
  | (with_reducible refine ge_sub ?_)
  | (with_reducible refine ge_mul ?_)
  | (with_reducible refine ge_mod ?_)
  | (with_reducible refine ge_fdiv ?_)
  )
local macro_rules | `(tactic| fail "x1GE12") => `(tactic| first
  | ((with_reducible show GE _ _ (Expr.Subscript (Expr.Name _ _) _ _) _ _); (with_reducible apply ixo_n); (eq_refl); (eq_refl); (eq_refl); (exact fun _ _ => rfl); rotate_left; (decide); (decide))
  )
local macro_rules | `(tactic| fail "x1GE13") => `(tactic| first
  | ((with_reducible show GE _ _ (Expr.Call (Expr.Name "len" _) [Expr.Name _ _] _ _) _ _); (with_reducible apply len_writ); (case W => with_reducible assumption); (exact ⟨rfl, rfl, rfl, rfl, rfl⟩); (with_reducible eq_refl); (eq_refl); (exact Gls.len (by assumption)); (eq_refl); rotate_left; (decide); (exact star_cons rfl))
  )
local macro_rules | `(tactic| fail "x1GE14") => `(tactic| first
  | ((with_reducible show GE _ _ (Expr.Call (Expr.Name "len" _) _ _ _) _ _); (with_reducible apply ge_len); (with_reducible eq_refl); (eq_refl); (exact Gls.len (by assumption)); rotate_left; (exact star_cons rfl))
  )
local macro_rules | `(tactic| fail "x1GE15") => `(tactic| first
  | ((with_reducible show GE _ _ (Expr.Call (Expr.Name "isinstance" _) [_, Expr.Name "int" _] _ _) _ _); (with_reducible apply isi_int); (with_reducible eq_refl); (with_reducible eq_refl); (eq_refl); (exact Gls.isinstance (by assumption)); (eq_refl); (exact Gls.int (by assumption)); (exact star_cons rfl); (exact star_cons rfl); (eq_refl))
  )
local macro_rules | `(tactic| fail "x1GE16") => `(tactic| first
  | ((with_reducible show GE _ _ (Expr.Call (Expr.Name "isinstance" _) [_, Expr.Name "bool" _] _ _) _ _); (with_reducible apply isi_bool); (with_reducible eq_refl); (with_reducible eq_refl); (eq_refl); (exact Gls.isinstance (by assumption)); (eq_refl); (exact Gls.bool (by assumption)); (exact star_cons rfl); (exact star_cons rfl); (eq_refl))
  )
local macro_rules | `(tactic| fail "x1GE17") => `(tactic| first
  | ((with_reducible show GE _ _ (Expr.Call (Expr.Name "isinstance" _) [_, Expr.Name "tuple" _] _ _) _ _); (with_reducible apply isi_tuple); (with_reducible eq_refl); (with_reducible eq_refl); (eq_refl); (exact Gls.isinstance (by assumption)); (eq_refl); (exact Gls.tuple (by assumption)); (exact star_cons rfl); (exact star_cons rfl); (eq_refl))
  )
local macro_rules | `(tactic| fail "x1GE18") => `(tactic| first
  | ((with_reducible show GE _ _ (Expr.Call (Expr.Name "int" _) _ _ _) _ _); (with_reducible apply ge_int1); (with_reducible eq_refl); (eq_refl); (exact Gls.int (by assumption)); rotate_left; (exact star_cons rfl))
  )
local macro_rules | `(tactic| fail "x1GE19") => `(tactic| first
  | ((with_reducible show GE _ _ (Expr.Call (Expr.Name "sum" _) _ _ _) _ _); (with_reducible apply ge_sum); (eq_refl); (with_reducible eq_refl); (eq_refl); (exact Gls.sum (by assumption)); rotate_left; (exact star_cons rfl))
  )
local macro_rules | `(tactic| fail "x1GE20") => `(tactic| first
  | ((with_reducible show GE _ _ (Expr.Call (Expr.Name "max" _) [_] _ _) _ _); (with_reducible apply ge_max1); (eq_refl); (first | with_reducible assumption | exact Bod.toCxt (by with_reducible assumption) | exact Cxt.blk (Bod.toCxt (by with_reducible assumption)) _ _ _ _ _ _ | exact Cxt.blk (Cxt.blk (Bod.toCxt (by with_reducible assumption)) _ _ _ _ _ _) _ _ _ _ _ _); (with_reducible eq_refl); (eq_refl); (exact Gls.max (by assumption)); rotate_left; (exact star_cons rfl))
  )
local macro_rules | `(tactic| fail "x1GE21") => `(tactic| first
  | ((with_reducible show GE _ _ (Expr.Call (Expr.Name "repr" _) _ _ _) _ _); (with_reducible apply ge_repr); (first | with_reducible assumption | exact Bod.toCxt (by with_reducible assumption) | exact Cxt.blk (Bod.toCxt (by with_reducible assumption)) _ _ _ _ _ _ | exact Cxt.blk (Cxt.blk (Bod.toCxt (by with_reducible assumption)) _ _ _ _ _ _) _ _ _ _ _ _); (with_reducible eq_refl); (eq_refl); (exact Gls.repr (by assumption)); rotate_left; (exact star_cons rfl))
  )
local macro_rules | `(tactic| fail "x1GE22") => `(tactic| first
  | ((with_reducible show GE _ _ (Expr.Call (Expr.Name "min" _) [_, _] _ _) _ _); (with_reducible apply ge_min2); (eq_refl); (with_reducible eq_refl); (eq_refl); (exact Gls.min (by assumption)); rotate_left; (exact star_cons rfl); (eq_refl))
  )
local macro_rules | `(tactic| fail "x1GE23") => `(tactic| first
  | ((with_reducible show GE _ _ (Expr.Call (Expr.Name "max" _) [_, _] _ _) _ _); (with_reducible apply ge_max2); (eq_refl); (with_reducible eq_refl); (eq_refl); (exact Gls.max (by assumption)); rotate_left; (exact star_cons rfl); (eq_refl))
  )
local macro_rules | `(tactic| fail "x1GE24") => `(tactic| first
  | ((with_reducible show GE _ _ (Expr.Call (Expr.Name "divmod" _) _ _ _) _ _); (with_reducible apply ge_divmod); (with_reducible eq_refl); (eq_refl); (exact Gls.divmod (by assumption)); rotate_left; (exact star_cons rfl); (eq_refl))
  )
local macro_rules | `(tactic| fail "x1GE25") => `(tactic| first
  | ((with_reducible show GE _ _ (Expr.Call (Expr.Name "tuple" _) _ _ _) _ _); (with_reducible apply ge_tupL); (with_reducible eq_refl); (eq_refl); (exact Gls.tuple (by assumption)); rotate_left; (exact star_cons rfl))
  )
local macro_rules | `(tactic| fail "x1GE26") => `(tactic| first
  | ((with_reducible show GE _ _ (Expr.Call (Expr.Name _ _) (_ :: _) [] _) _ _); (with_reducible apply call_e); (case F => with_reducible assumption); (exact ⟨rfl, rfl, rfl, rfl, rfl⟩); (first | with_reducible assumption | exact Bod.toCxt (by with_reducible assumption) | exact Cxt.blk (Bod.toCxt (by with_reducible assumption)) _ _ _ _ _ _ | exact Cxt.blk (Cxt.blk (Bod.toCxt (by with_reducible assumption)) _ _ _ _ _ _) _ _ _ _ _ _); (eq_refl); (eq_refl); (first | with_reducible assumption | exact Exc.none); rotate_left; (decide); (exact star_cons rfl); (eq_refl))
  | ((with_reducible show GE _ _ (Expr.Call (Expr.Name _ _) (_ :: _) [] _) _ _); (with_reducible apply pail_e); (case F => with_reducible assumption); (exact ⟨rfl, rfl, rfl, rfl, rfl⟩); (first | with_reducible assumption | exact Bod.toCxt (by with_reducible assumption) | exact Cxt.blk (Bod.toCxt (by with_reducible assumption)) _ _ _ _ _ _ | exact Cxt.blk (Cxt.blk (Bod.toCxt (by with_reducible assumption)) _ _ _ _ _ _) _ _ _ _ _ _); (eq_refl); (eq_refl); (first | with_reducible assumption | exact Exc.none); (eq_refl); (eq_refl); (eq_refl); rotate_left; (decide); (decide); (decide); (exact star_cons rfl); (eq_refl))
  )
local macro_rules | `(tactic| fail "x1GE") => `(tactic| first
  | ((with_reducible show GE _ _ (Expr.Call (Expr.Name "isinstance" _) [_, Expr.Name _ _] _ _) _ _); fail "x1GE3")
  | ((with_reducible show GE _ _ (Expr.Call (Expr.Name _ _) (_ :: _) [] _) _ _); fail "x1GE4")
  | ((with_reducible show GE _ _ (Expr.Call (Expr.Name _ _) [] (_ :: _) _) _ _); fail "x1GE5")
  | ((with_reducible show GE _ _ (Expr.Attribute _ _ _) _ _); fail "x1GE6")
  | ((with_reducible show GE _ _ (Expr.Constant _ _ _) _ _); fail "x1GE7")
  | ((with_reducible show GE _ _ (Expr.Name _ _) _ _); fail "x1GE8")
  | ((with_reducible show GE _ _ (Expr.Compare _ [CmpOp.LtE, CmpOp.LtE] _ _) _ _); (with_reducible apply ge_lele); (with_unfolding_all rfl))
  | ((with_reducible show GE _ _ (Expr.BoolOp _ _ _) _ _); fail "x1GE9")
  | (with_reducible refine ge_not ?_)
  | (with_reducible refine ge_if ?_)
  | ((with_reducible show GE _ _ (Expr.Compare _ [CmpOp.Eq] _ _) _ _); fail "x1GE10")
  | (with_reducible refine ge_le ?_)
  | (with_reducible refine ge_gt ?_)
  | (with_reducible refine ge_ge ?_)
  | (with_reducible refine ge_isN ?_)
  | (with_reducible refine ge_notN ?_)
  | ((with_reducible show GE _ _ (Expr.BinOp _ _ _ _) _ _); fail "x1GE11")
  | (with_reducible refine ge_slice ?_)
  | ((with_reducible show GE _ _ (Expr.Subscript (Expr.Name _ _) _ _) _ _); fail "x1GE12")
  | ((with_reducible show GE _ _ (Expr.Subscript _ _ _) _ _); (with_reducible apply ge_ix); (exact fun _ _ => rfl))
  | (with_reducible refine ge_tup ?_)
  | (with_reducible refine ge_joined1 ?_)
  | (with_reducible refine ge_fmt ?_)
  | ((with_reducible show GE _ _ (Expr.Call (Expr.Name "len" _) [Expr.Name _ _] _ _) _ _); fail "x1GE13")
  | ((with_reducible show GE _ _ (Expr.Call (Expr.Name "len" _) _ _ _) _ _); fail "x1GE14")
  | ((with_reducible show GE _ _ (Expr.Call (Expr.Name "isinstance" _) [_, Expr.Name "int" _] _ _) _ _); fail "x1GE15")
  | ((with_reducible show GE _ _ (Expr.Call (Expr.Name "isinstance" _) [_, Expr.Name "bool" _] _ _) _ _); fail "x1GE16")
  | ((with_reducible show GE _ _ (Expr.Call (Expr.Name "isinstance" _) [_, Expr.Name "tuple" _] _ _) _ _); fail "x1GE17")
  | ((with_reducible show GE _ _ (Expr.Call (Expr.Name "int" _) _ _ _) _ _); fail "x1GE18")
  | ((with_reducible show GE _ _ (Expr.Call (Expr.Name "sum" _) _ _ _) _ _); fail "x1GE19")
  | ((with_reducible show GE _ _ (Expr.Call (Expr.Name "max" _) [_] _ _) _ _); fail "x1GE20")
  | ((with_reducible show GE _ _ (Expr.Call (Expr.Name "repr" _) _ _ _) _ _); fail "x1GE21")
  | ((with_reducible show GE _ _ (Expr.Call (Expr.Name "min" _) [_, _] _ _) _ _); fail "x1GE22")
  | ((with_reducible show GE _ _ (Expr.Call (Expr.Name "max" _) [_, _] _ _) _ _); fail "x1GE23")
  | ((with_reducible show GE _ _ (Expr.Call (Expr.Name "divmod" _) _ _ _) _ _); fail "x1GE24")
  | ((with_reducible show GE _ _ (Expr.Call (Expr.Name "tuple" _) _ _ _) _ _); fail "x1GE25")
  | ((with_reducible show GE _ _ (Expr.Call (Expr.Attribute _ "join" _) _ _ _) _ _); (with_reducible apply ge_join); rotate_left; (eq_refl); (eq_refl); (eq_refl))
  | ((with_reducible show GE _ _ (Expr.Call (Expr.Name _ _) (_ :: _) [] _) _ _); fail "x1GE26")
  | ((with_reducible show GE _ _ (Expr.List _ _) _ _); (with_reducible refine ge_ofF ?_))
  | ((with_reducible show GE _ _ (Expr.ListComp _ _ _ _) _ _); (with_reducible refine ge_ofF ?_))
  | ((with_reducible show GE _ _ (Expr.BinOp _ _ _ _) _ _); (with_reducible refine ge_ofF ?_))
  | ((with_reducible show GE _ _ (Expr.Call _ _ _ _) _ _); (with_reducible refine ge_ofF ?_))
  | (with_reducible refine ge_neg ?_)
  )
local macro_rules | `(tactic| fail "x1G127") => `(tactic| first
  | ((with_reducible show G1 _ _ (Stmt.Assign [Expr.Tuple [Expr.Name _ _, Expr.Name _ _] _ _] (Expr.Tuple _ _ _) _) _ _); (with_reducible apply par_n); (with_reducible assumption); (assumption); (eq_refl); (eq_refl); (eq_refl); (eq_refl); (eq_refl); (eq_refl); (eq_refl); (eq_refl))
  )
local macro_rules | `(tactic| fail "x1G128") => `(tactic| first
  | ((with_reducible show G1 _ _ (Stmt.Assign [Expr.Name _ _] _ _) _ _); (with_reducible apply set_e); (with_reducible assumption); (eq_refl); (eq_refl); rotate_left; (eq_refl))
  | ((with_reducible show G1 _ _ (Stmt.Assign [Expr.Name _ _] _ _) _ _); (with_reducible apply set_cell); (with_reducible assumption); (eq_refl); (eq_refl); rotate_left; (eq_refl); (eq_refl))
  )
local macro_rules | `(tactic| fail "x1G129") => `(tactic| first
  | ((with_reducible show G1 _ _ (Stmt.Assign [Expr.Subscript (Expr.Name _ _) _ _] _ _) _ _); (with_reducible apply put_n); (eq_refl); (eq_refl); (eq_refl); rotate_left; (decide); (decide); (intro _; eq_refl); (eq_refl); (eq_refl); (eq_refl))
  )
local macro_rules | `(tactic| fail "x1G1") => `(tactic| first
  | ((with_reducible show G1 _ _ (Stmt.Assign [Expr.Tuple [Expr.Name _ _, Expr.Name _ _] _ _] (Expr.Tuple _ _ _) _) _ _); fail "x1G127")
  | ((with_reducible show G1 _ _ (Stmt.For _ _ _ _ _) _ _); (with_reducible apply g1_for); (with_reducible assumption); rotate_left; (intro _; eq_refl))
  | (with_reducible refine g1_ret ?_)
  | (with_reducible refine g1_if ?_)
  | ((with_reducible show G1 _ _ (Stmt.Assign [Expr.Name _ _] _ _) _ _); fail "x1G128")
  | ((with_reducible show G1 _ _ (Stmt.Expr _ _) _ _); (with_reducible apply g1_expr); rotate_left; (eq_refl))
  | ((with_reducible show G1 _ _ (Stmt.Assign [Expr.Subscript (Expr.Name _ _) _ _] _ _) _ _); fail "x1G129")
  | ((with_reducible show G1 _ _ (Stmt.Assign [Expr.Tuple _ _ _] _ _) _ _); (with_reducible apply asg_t); rotate_left; (eq_refl); (eq_refl); (eq_refl))
  )
local macro_rules | `(tactic| fail "x1GT30") => `(tactic| first
  | ((with_reducible show GT _ _ (Expr.Compare _ [CmpOp.Eq] _ _) _ _); (with_reducible apply gt_eq); (first | with_reducible assumption | exact Bod.toCxt (by with_reducible assumption) | exact Cxt.blk (Bod.toCxt (by with_reducible assumption)) _ _ _ _ _ _ | exact Cxt.blk (Cxt.blk (Bod.toCxt (by with_reducible assumption)) _ _ _ _ _ _) _ _ _ _ _ _))
  )
local macro_rules | `(tactic| fail "x1GT31") => `(tactic| first
  | ((with_reducible show GT _ _ (Expr.Compare _ [CmpOp.NotEq] _ _) _ _); (with_reducible apply gt_ne); (first | with_reducible assumption | exact Bod.toCxt (by with_reducible assumption) | exact Cxt.blk (Bod.toCxt (by with_reducible assumption)) _ _ _ _ _ _ | exact Cxt.blk (Cxt.blk (Bod.toCxt (by with_reducible assumption)) _ _ _ _ _ _) _ _ _ _ _ _))
  )
local macro_rules | `(tactic| fail "x1GT") => `(tactic| first
  | (with_reducible refine gt_not ?_)
  | (with_reducible refine gt_bool ?_)
  | ((with_reducible show GT _ _ (Expr.Compare _ [CmpOp.Eq] _ _) _ _); fail "x1GT30")
  | ((with_reducible show GT _ _ (Expr.Compare _ [CmpOp.NotEq] _ _) _ _); fail "x1GT31")
  | (with_reducible refine gt_lt ?_)
  | (with_reducible refine gt_le ?_)
  | (with_reducible refine gt_gt ?_)
  | (with_reducible refine gt_ge ?_)
  | (with_reducible refine gt_isN ?_)
  | (with_reducible refine gt_notN ?_)
  | ((with_reducible show GT _ _ (Expr.Compare _ [CmpOp.LtE, CmpOp.LtE] _ _) _ _); (with_reducible apply gt_lele); (with_unfolding_all rfl))
  | ((with_reducible show GT _ _ (Expr.Compare _ [CmpOp.LtE, CmpOp.Lt] _ _) _ _); (with_reducible apply gt_lelt); (with_unfolding_all rfl))
  | ((with_reducible show GT _ _ _ _ _); (with_reducible apply gt_ofE); rotate_left; (intro _; eq_refl))
  )
local macro_rules | `(tactic| fail "x1GW") => `(tactic| first
  | (with_reducible refine gw_or1 ?_)
  | (with_reducible refine gw_and1 ?_)
  | (with_reducible refine gw_or ?_)
  | (with_reducible refine gw_and ?_)
  )
local macro_rules | `(tactic| fail "x1GC32") => `(tactic| first
  | ((with_reducible show GC _ _ _ (Expr.Name _ _) _ _ _); (with_reducible apply gc_n); (with_reducible assumption); (eq_refl); (eq_refl); (eq_refl); (first | exact .inl rfl | exact .inr rfl); (eq_refl))
  )
local macro_rules | `(tactic| fail "x1GCs33") => `(tactic| first
  | ((with_reducible show GCs _ _ _ (Expr.Name _ _ :: _) _ _ _); (with_reducible apply gcs_n); (with_reducible assumption); (eq_refl); (eq_refl); (eq_refl); (first | exact .inl rfl | exact .inr rfl); (eq_refl); rotate_left; (eq_refl))
  )
local macro_rules | `(tactic| fail "x1GS34") => `(tactic| first
  | ((with_reducible show GS _ _ false (Expr.Name _ _) _ _); (with_reducible apply gs_writ); (case W => with_reducible assumption); (exact ⟨rfl, rfl, rfl, rfl, rfl⟩); (eq_refl); rotate_left; (decide))
  )
local macro_rules | `(tactic| fail "x1GG35") => `(tactic| first
  | ((with_reducible show GG _ _ (Expr.Name _ _) _ _ _); (with_reducible apply gg_n); (with_reducible assumption); (eq_refl); (eq_refl); (eq_refl); (first | exact .inl rfl | exact .inr rfl))
  )
local macro_rules | `(tactic| fail "x1GG36") => `(tactic| first
  | ((with_reducible show GG _ _ (Expr.Subscript (Expr.Name _ _) _ _) _ _ _); (with_reducible apply gg_put); (eq_refl); (eq_refl); (eq_refl); rotate_left; (decide); (decide); (intro _; eq_refl))
  )
local macro_rules | `(tactic| fail "x1GG") => `(tactic| first
  | ((with_reducible show GG _ _ (Expr.Tuple _ _ _) _ _ _); (with_reducible apply gg_t); (eq_refl); (eq_refl); (eq_refl); (eq_refl))
  | ((with_reducible show GG _ _ (Expr.Name _ _) _ _ _); fail "x1GG35")
  | ((with_reducible show GG _ _ (Expr.Subscript (Expr.Name _ _) _ _) _ _ _); fail "x1GG36")
  )
local macro_rules | `(tactic| fail "x1GGs37") => `(tactic| first
  | ((with_reducible show GGs _ _ (Expr.Name _ _ :: _) _ _ _); (with_reducible apply ggs_n); (with_reducible assumption); (eq_refl); (eq_refl); (eq_refl); (first | exact .inl rfl | exact .inr rfl); rotate_left; (eq_refl))
  )
local macro_rules | `(tactic| fail "x1GGs38") => `(tactic| first
  | ((with_reducible show GGs _ _ (Expr.Subscript (Expr.Name _ _) (Expr.Constant _ _ _) _ :: _) _ _ _); (with_reducible apply ggs_put0); (eq_refl); (eq_refl); (eq_refl); (eq_refl); rotate_left; (decide); (decide); (intro _; eq_refl); (eq_refl))
  )
local macro_rules | `(tactic| fail "x1GGs") => `(tactic| first
  | (with_reducible refine ggs_nil ?_)
  | ((with_reducible show GGs _ _ (Expr.Name _ _ :: _) _ _ _); fail "x1GGs37")
  | ((with_reducible show GGs _ _ (Expr.Subscript (Expr.Name _ _) (Expr.Constant _ _ _) _ :: _) _ _ _); fail "x1GGs38")
  )
local macro_rules | `(tactic| fail "x1mi39") => `(tactic| first
  | ((with_reducible show ∃ k0 : Int, _ = PyData.int k0 ∧ (0 ≤ k0 ∧ k0 ≤ 1000) ∧ _); refine ⟨_, rfl, ⟨by first | decide | omega, by first | decide | omega⟩, Nat.le_of_ble_eq_true rfl, ?_⟩)
  )
local macro_rules | `(tactic| fail "x1mi40") => `(tactic| first
  | ((with_reducible show MulD (PyData.int _) (PyData.int _) _); (with_reducible apply mul_ii); (first | exact .inl (.inl ⟨by omega, by omega⟩) | exact .inl (.inr ⟨by omega, by omega⟩)))
  )
local macro_rules | `(tactic| fail "x1mi41") => `(tactic| first
  | ((with_reducible show IntD _ _ (PyData.int _) (PyData.int _) _); (with_reducible apply mod_i); (first | decide | omega))
  | ((with_reducible show IntD _ _ (PyData.int _) (PyData.int _) _); (with_reducible apply fdiv_i); (first | decide | omega); (first | decide | omega))
  )
local macro_rules | `(tactic| fail "x1mi") => `(tactic| first
  | ((with_reducible show notI _ = true ∧ _); refine ⟨by first | rfl | assumption, ?_⟩)
  | ((with_reducible show ∀ B0 : Bas, Same _ _ → _); intro _ _ _)
  | ((with_reducible show ∃ k0 : Int, _ = PyData.int k0 ∧ (0 ≤ k0 ∧ k0 ≤ 1000) ∧ _); fail "x1mi39")
  | ((with_reducible show ∀ a0 : Addr, Alone _ a0 → _); intro _ _)
  | (with_reducible refine add_ii ?_)
  | (with_reducible refine int0_i ?_)
  | (with_reducible refine ord_i ?_)
  | (with_reducible refine isN_i ?_)
  | (with_reducible refine notN_i ?_)
  | ((with_reducible show EqD _ _ _); (with_reducible apply eq_p); (eq_refl))
  | ((with_reducible show NeD _ _ _); (with_reducible apply ne_p); (eq_refl))
  | (with_reducible refine len_l ?_)
  | (with_reducible refine len_t ?_)
  | (with_reducible refine seq_l ?_)
  | (with_reducible refine seq_t ?_)
  | (with_reducible refine intf_i ?_)
  | (with_reducible refine sl_l ?_)
  | (with_reducible refine gs_list ?_)
  | (with_reducible refine gs_tup ?_)
  | (with_reducible refine gs_list ?_)
  | (with_reducible refine gs_list ?_)
  | (with_reducible refine gs_list ?_)
  | (with_reducible refine gs_list ?_)
  | ((with_reducible show IxD (PyData.list _) (PyData.int _) _); (with_reducible apply ix_l); (eq_refl))
  | ((with_reducible show IxD (PyData.tuple _) (PyData.int _) _); (with_reducible apply ix_t); (eq_refl))
  | ((with_reducible show MulD (PyData.int _) (PyData.int _) _); fail "x1mi40")
  | ((with_reducible show AddD (PyData.list _) (PyData.list _) _); (with_reducible apply add_l2); (eq_refl))
  | ((with_reducible show IntD _ _ (PyData.int _) (PyData.int _) _); fail "x1mi41")
  | ((with_reducible show (_ : List Sl) = _); rfl)
  | ((with_reducible show (∃ ds, _[_]? = some (Sl.own _ ds)) ∧ _); refine ⟨⟨_, rfl⟩, ?_⟩)
  | ((with_reducible show ∃ ds m, _[_]? = some (Sl.own _ ds) ∧ _); refine ⟨_, _, rfl, _, rfl, rfl, ?_⟩)
  | ((with_reducible show ∃ es, _[_]? = some (Sl.own _ es) ∧ _); refine ⟨_, rfl, ?_⟩)
  | ((with_reducible show Blk _ _ _); intro _ _ _ _ _)
  | (with_reducible refine ⟨len_ok rfl, ?_⟩)
  | (with_reducible refine ⟨_, rfl, ?_⟩)
  | (with_reducible refine ⟨_, _, rfl, ?_⟩)
  | (with_reducible refine ⟨rfl, ?_⟩)
  | (with_reducible refine ⟨trivial, ?_⟩)
  )
local macro_rules | `(tactic| infer_instance) => `(tactic| first
  | ((with_reducible show (if _ = true then _ else _)); (with_reducible refine ite_t (by with_reducible rfl) ?_))
  | ((with_reducible show (if _ = true then _ else _)); (with_reducible refine ite_f (by with_reducible exact no_ft) ?_))
  | ((with_reducible show (if _ = true then _ else _)); (with_reducible refine ite_t (by with_reducible exact yes_nf) ?_))
  | ((with_reducible show (if _ = true then _ else _)); (with_reducible refine ite_f (by with_reducible exact no_nt) ?_))
  | ((with_reducible show Out.to _ _ _); (with_reducible refine to_ok ?_))
  | ((with_reducible show GI _ _ _ _ _ _); fail "x1GI")
  | ((with_reducible show GA _ _ _ _ _); fail "x1GA")
  | ((with_reducible show GQ _ _ _ _ _ _); fail "x1GQ")
  | ((with_reducible show GE _ _ _ _ _); fail "x1GE")
  | ((with_reducible show G1 _ _ _ _ _); fail "x1G1")
  | (with_reducible refine gs_cons ?_)
  | ((with_reducible show GT _ _ _ _ _); fail "x1GT")
  | ((with_reducible show GW _ _ _ _ _); fail "x1GW")
  | (with_reducible refine go_none ?_)
  | (with_reducible refine go_some ?_)
  | (with_reducible refine gf_list ?_)
  | (with_reducible refine gp_nil ?_)
  | (with_reducible refine gp_one ?_)
  | (with_reducible refine gb_of ?_)
  | ((with_reducible show GC _ _ _ (Expr.Name _ _) _ _ _); fail "x1GC32")
  | ((with_reducible show GC _ _ _ (Expr.Tuple _ _ _) _ _ _); (with_reducible apply gc_t); (eq_refl); (eq_refl); (eq_refl); (eq_refl))
  | ((with_reducible show GCs _ _ _ (Expr.Name _ _ :: _) _ _ _); fail "x1GCs33")
  | (with_reducible refine gcs_nil ?_)
  | ((with_reducible show GS _ _ false (Expr.Name _ _) _ _); fail "x1GS34")
  | ((with_reducible show GG _ _ _ _ _ _); fail "x1GG")
  | ((with_reducible show GGs _ _ _ _ _ _); fail "x1GGs")
  | fail "x1mi"
  )
namespace K69
open PySem PySem.Spec PyProof.Rows L2 Tc
def topS (i : Nat) : Stmt := PySem.Challenge.pw_toldcounts_k69_whole_numbers_of_people.main.body.getD i (.Pass ⟨0, 0, 0, 0⟩)
abbrev s_is_integer : Stmt := topS 12
abbrev s_is_number : Stmt := topS 13
abbrev s_unit : Stmt := topS 14
abbrev s_number_with : Stmt := topS 15
abbrev s_read_number : Stmt := topS 16
abbrev s_need_people : Stmt := topS 19
abbrev s_need_most : Stmt := topS 20
abbrev s_whole_of : Stmt := topS 25
abbrev s_need_poll_places : Stmt := topS 26
abbrev s_is_share : Stmt := topS 27
abbrev s_need_shares : Stmt := topS 28
abbrev s_need_poll : Stmt := topS 29
abbrev s_counts_with : Stmt := topS 30
abbrev s_count_stretches : Stmt := topS 33
abbrev s_stretches_for : Stmt := topS 34
abbrev s_does_fit_people : Stmt := topS 35
abbrev s_twice : Stmt := topS 36
abbrev s_leasts : Stmt := topS 37
abbrev s_behinds : Stmt := topS 38
abbrev s_fits_none : Stmt := topS 39
abbrev s_fits_multiples : Stmt := topS 40
abbrev s_multiplied : Stmt := topS 41
abbrev s_behind_gaps : Stmt := topS 42
abbrev s_rounded_up : Stmt := topS 43
abbrev s_adds_up : Stmt := topS 44
abbrev s_passing : Stmt := topS 45
abbrev s_fitting : Stmt := topS 46
abbrev s_people_for : Stmt := topS 47
abbrev s_from_on : Stmt := topS 48
abbrev s_with_counts : Stmt := topS 49
abbrev s_least_people : Stmt := topS 50
abbrev s_lwell : Stmt := topS 52
abbrev s_ldraw : Stmt := topS 53
abbrev s_ldealt : Stmt := topS 54
abbrev s_lnear : Stmt := topS 55
abbrev s_lshares : Stmt := topS 56
abbrev s_ltried : Stmt := topS 57
abbrev s_lfits : Stmt := topS 58
abbrev s_lsums : Stmt := topS 59
abbrev s_lfar : Stmt := topS 60
abbrev s_lleast : Stmt := topS 61
abbrev s_lfrom : Stmt := topS 62
abbrev s_lnumbers_right : Stmt := topS 63
abbrev s_lends_right : Stmt := topS 64
abbrev s_lright : Stmt := topS 65
abbrev s_law : Stmt := topS 66
abbrev m_init : Stmt := inClass (topS 24) 0
abbrev m_places : Stmt := inClass (topS 24) 2
abbrev m_shares : Stmt := inClass (topS 24) 3
def pl1 (x : Str) (n : Nat) : Str × Nat := (x, n)
def nu1 (x : Str) (n : Int) : Str × Int := (x, n)
def fplaces : List (Str × Nat) := [pl1 "is_integer" 12, pl1 "is_number" 13, pl1 "_unit" 14, pl1 "_number_with" 15, pl1 "read_number" 16, pl1 "need_people" 19, pl1 "need_most" 20, pl1 "whole_of" 25, pl1 "_need_poll_places" 26, pl1 "_is_share" 27, pl1 "_need_shares" 28, pl1 "need_poll" 29, pl1 "counts_with" 30, pl1 "_count_stretches" 33, pl1 "_stretches_for" 34, pl1 "does_fit_people" 35, pl1 "_twice" 36, pl1 "_leasts" 37, pl1 "_behinds" 38, pl1 "_fits_none" 39] ++ [pl1 "_fits_multiples" 40, pl1 "_multiplied" 41, pl1 "_behind_gaps" 42, pl1 "_rounded_up" 43, pl1 "_adds_up" 44, pl1 "_passing" 45, pl1 "_fitting" 46, pl1 "people_for" 47, pl1 "from_on" 48, pl1 "_with_counts" 49, pl1 "least_people" 50, pl1 "_law_well" 52, pl1 "_law_draw" 53, pl1 "_law_dealt" 54, pl1 "_law_near" 55, pl1 "_law_shares" 56, pl1 "_law_tried" 57, pl1 "_law_fits" 58, pl1 "_law_sums" 59, pl1 "_law_far" 60, pl1 "_law_least" 61, pl1 "_law_from" 62, pl1 "_law_numbers_right" 63, pl1 "_law_ends_right" 64, pl1 "_law_right" 65, pl1 "law" 66]
def funs : List Str := fplaces.map (·.1)
def nums : List (Str × Int) := [nu1 "MOST_SHARES" 6, nu1 "_LEAST_SHARES" 2, nu1 "_MOST_MEANT" 3000, nu1 "_AT_ONCE" 64]
def frees : List Str := (["len", "int", "bool", "str", "tuple", "list", "isinstance", "abs", "divmod", "range", "repr", "min", "max", "all", "any", "sum", "sorted", "zip", "enumerate", "reversed", "set"] : List String).map Str.ofString
def fields : List Str := ["_places", "_shares", "_text"]
def props : List (Str × Nat) := [pl1 "places" 2, pl1 "shares" 3]
/-- == of two instances is the own one -/
def insB (K : PySem.W.Frag) (x : Str) : Bool := He.eqO (PySem.W.findIn K (.ref (He.ga K x)) "__class__") (some (some (.builtin "object.__class__"))) && (He.eqO (PySem.W.specialIn K (.builtin "object.__class__") "__get__") (some (some (.builtin "getset_descriptor.__get__"))) &&
  (decide (PySem.W.takesIn K (.builtin "object.__class__") = some true) && (decide (PySem.W.mroIn K (He.ga K x) (.type "object") = some true) && (decide (PySem.W.kitOne K (.ref (He.ga K x)) (.ref (He.ga K x)) = some true) &&
  ((PySem.W.clsIn K (He.ga K x)).isSome && decide (PySem.W.typeIn K (.ref (He.ga K x)) = some (.type "type")))))))
def fn : List FnQ := fplaces.map (fun p => ⟨.glo p.1, p.1, p.1, topS p.2⟩) ++ (⟨.meth "Poll" "__init__", "__init__", "Poll.__init__", m_init⟩ :: props.map (fun p => ⟨.prop "Poll" p.1, p.1, "Poll." ++ p.1, inClass (topS 24) p.2⟩))
def tf : List He.Defn := []
def F (K : PySem.W.Frag) : Bool :=
  funs.all (fun x => (He.Fa.glo x).ok K) && (frees.all (fun x => (He.Fa.free x).ok K) && (nums.all (fun e => (He.Fa.int e.1 e.2).ok K) &&
  (((He.Fa.glo "_WHOLES").ok K && He.tupB K "_WHOLES" [He.Dv.int 100, He.Dv.int 1000]) && ((He.eqO (PySem.W.nsIn K mainGlobals "gcd") (some (some (.builtin "math.gcd")))) && (((He.Fa.glo "Poll").ok K && (mkB K "Poll" && insB K "Poll")) && (fields.all (fun f => (He.Fa.noat "Poll" f).ok K) &&
  (props.all (fun p => propB K "Poll" p.1) && (K.lookup sysModules).isSome)))))))
abbrev R : PySem.W.OpenRow := PySem.W.OpenLaw.row PySem.Challenge.rw_toldcounts_k69_whole_numbers_of_people
abbrev hk : PySem.W.Hook := hookQ F fn tf
def ob (s : PySem.W.SharedT) : He.Al × Bool := obsQ F fn tf (HandSHeadRun.getT s)
theorem ob_eq (s : PySem.W.SharedT) : ob s = hk.obs s.abs := obsQ_eq (HandSHeadRun.getT_eq s)
def loose : List Str := nums.map (·.1) ++ (((["_wall", "WrongValue", "_DIGITS_AT_ONCE", "InvalidText", "InvalidNumber", "InvalidPeople", "InvalidPlaces", "NotAPoll", "InvalidShares", "_WHOLES", "Poll"] : List String).map Str.ofString ++ funs.dropLast))
end K69
namespace K69
open PySem PySem.Spec PyProof.Rows L2 Tc
theorem run (w : World) : HandSHeadRun.RunEqI R (PySem.W.view R.prog [0, 66]) hk ob 14000 loose w := by
  unfold HandSHeadRun.RunEqI
  kernel_rfl
end K69
namespace K69
open PySem PySem.Spec PyProof.Rows L2 Tc Px Py
section
variable {P : Program} {w : World} {K : PySem.W.Frag} {mg : Str → Option Value} {base : Heap}
def intB : PyData → Bool
  | .int _ => true
  | _ => false
def natB : PyData → Bool
  | .int i => decide (0 ≤ i)
  | _ => false
abbrev ni1 (ds : List PyData) : Prop := notI (ds.headD .none) = true
theorem sc_is_integer : FnScope ["value"] ["value"] (defScope s_is_integer) := ⟨rfl, rfl, rfl, by decide +kernel, rfl, by decide +kernel, by decide +kernel⟩
theorem sc_is_number : FnScope ["value"] ["value"] (defScope s_is_number) := ⟨rfl, rfl, rfl, by decide +kernel, rfl, by decide +kernel, by decide +kernel⟩
theorem ok_is_integer {f : Addr} {fd : FuncData} (F : Fun K "is_integer" "is_integer" s_is_integer f fd) (sm : ∃ o, K.lookup sysModules = some o) (B : Gls mg) :
    FnG P w K mg base (L2.CX P w) 1 f fd ["value"] (spF 1 ni1 fun ds => .ok (.bool (intB (ds.headD .none)))) := by
  refine fn_data F sc_is_integer sm (by decide) _ _ fun cdv A outer s H E Bs ds hl hp c ex => ?_
  match ds, hl with
  | [d], _ =>
  have hp : notI d = true := hp
  refine gs_cons ?_
  repeat infer_instance
  rw [isD_int]
  cases d <;> (repeat infer_instance)
  all_goals first | exact rfl | (rw [isD_bool]; repeat infer_instance; exact rfl)
theorem ok_is_number (F1 : Call P w K mg base (L2.CX P w) 1 "is_integer" ["value"] (spF 1 ni1 fun ds => .ok (.bool (intB (ds.headD .none))))) {f : Addr} {fd : FuncData} (F : Fun K "is_number" "is_number" s_is_number f fd) (sm : ∃ o, K.lookup sysModules = some o) (B : Gls mg) :
    FnG P w K mg base (L2.CX P w) 2 f fd ["value"] (spF 1 ni1 fun ds => .ok (.bool (natB (ds.headD .none)))) := by
  refine fn_data F sc_is_number sm (by decide) _ _ fun cdv A outer s H E Bs ds hl hp c ex => ?_
  match ds, hl with
  | [d], _ =>
  have hp : notI d = true := hp
  refine gs_cons ?_
  repeat infer_instance
  rw [List.headD_cons]
  cases d <;> (generalize hb : intB _ = t; cases t <;> first | cases hb | skip)
  all_goals repeat infer_instance
  all_goals exact rfl
end
end K69
namespace K69
open PySem PySem.Spec PyProof.Rows L2 Tc Px Py
local macro_rules | `(tactic| fail "x5GE0") => `(tactic| first
  | ((with_reducible show GE _ _ (Expr.Subscript (Expr.Name "_WHOLES" _) _ _) _ _); (with_reducible apply ge_ixW); (exact ⟨rfl, rfl, rfl, rfl, rfl⟩); (assumption); (eq_refl); (exact fun _ _ => rfl); rotate_left; (decide))
  )
local macro_rules | `(tactic| infer_instance) => `(tactic| first
  | (with_reducible refine gs_nil ?_)
  | ((with_reducible show GE _ _ (Expr.Subscript (Expr.Name "_WHOLES" _) _ _) _ _); fail "x5GE0")
  )
section
variable {P : Program} {w : World} {K : PySem.W.Frag} {mg : Str → Option Value} {base : Heap}
theorem sc_need_people : FnScope ["people", "most"] ["people", "most"] (defScope s_need_people) := ⟨rfl, rfl, rfl, by decide +kernel, rfl, by decide +kernel, by decide +kernel⟩
theorem sc_whole_of : FnScope ["places"] ["places"] (defScope s_whole_of) := ⟨rfl, rfl, rfl, by decide +kernel, rfl, by decide +kernel, by decide +kernel⟩
theorem sc_need_poll_places : FnScope ["places"] ["places"] (defScope s_need_poll_places) := ⟨rfl, rfl, rfl, by decide +kernel, rfl, by decide +kernel, by decide +kernel⟩
theorem sc_is_share : FnScope ["value", "whole"] ["value", "whole"] (defScope s_is_share) := ⟨rfl, rfl, rfl, by decide +kernel, rfl, by decide +kernel, by decide +kernel⟩
theorem sc_counts_with : FnScope ["share", "people", "whole", "least", "behind", "stretch"] ["share", "people", "whole"] (defScope s_counts_with) := ⟨rfl, rfl, rfl, by decide +kernel, rfl, by decide +kernel, by decide +kernel⟩
abbrev FInt (P : Program) (w : World) (K : PySem.W.Frag) (mg : Str → Option Value) (base : Heap) : Prop := Call P w K mg base (L2.CX P w) 1 "is_integer" ["value"] (spF 1 ni1 fun ds => .ok (.bool (intB (ds.headD .none))))
abbrev FNat (P : Program) (w : World) (K : PySem.W.Frag) (mg : Str → Option Value) (base : Heap) : Prop := Call P w K mg base (L2.CX P w) 2 "is_number" ["value"] (spF 1 ni1 fun ds => .ok (.bool (natB (ds.headD .none))))
theorem ok_need_people (F1 : FInt P w K mg base) {f : Addr} {fd : FuncData} (F : Fun K "need_people" "need_people" s_need_people f fd) (sm : ∃ o, K.lookup sysModules = some o) (B : Gls mg) :
    FnG P w K mg base (L2.CX P w) 2 f fd ["people", "most"] (spF 2 (fun ds => ∃ p : Int, ds = [.int p, .none] ∧ 1 ≤ p) fun _ => .ok .none) := by
  refine fn_data F sc_need_people sm (by decide) _ _ fun cdv A outer s H E Bs ds hl hp c ex => ?_
  obtain ⟨p, rfl, h1⟩ := hp
  refine gs_cons ?_
  repeat infer_instance
  show if (!true) = true then _ else _
  repeat infer_instance
  rw [decide_eq_false (show ¬ p < 1 by omega)]
  repeat infer_instance
  show if false = true then _ else _
  repeat infer_instance
  repeat (with_reducible refine gs_nil ?_)
  exact rfl
/-- nearest: a half goes up -/
def nearI (a d : Int) : Int := (2 * a + d) / (2 * d)
def wholeI (p : Int) : Int := if p = 0 then 100 else 1000
def wholeD : List PyData → PyData
  | [.int p] => .int (wholeI p)
  | _ => .none
abbrev place (p : Int) : Prop := p = 0 ∨ p = 1
theorem ok_whole_of {aW : Addr} (WW : Writ K mg "_WHOLES" aW [.int 100, .int 1000]) {f : Addr} {fd : FuncData} (F : Fun K "whole_of" "whole_of" s_whole_of f fd) (sm : ∃ o, K.lookup sysModules = some o) (B : Gls mg) :
    FnG P w K mg base (L2.CX P w) 1 f fd ["places"] (spF 1 (fun ds => ∃ p : Int, ds = [.int p] ∧ place p) fun ds => .ok (wholeD ds)) := by
  refine fn_data F sc_whole_of sm (by decide) _ _ fun cdv A outer s H E Bs ds hl hp c ex => ?_
  obtain ⟨p, rfl, h1⟩ := hp
  have nd := sc_whole_of.nd
  refine gs_cons ?_
  repeat infer_instance
  rcases h1 with rfl | rfl
  · exact ⟨0, _, rfl, rfl, rfl⟩
  · exact ⟨1, _, rfl, rfl, rfl⟩
theorem ok_need_poll_places {aW : Addr} (WW : Writ K mg "_WHOLES" aW [.int 100, .int 1000]) (F1 : FNat P w K mg base) {f : Addr} {fd : FuncData} (F : Fun K "_need_poll_places" "_need_poll_places" s_need_poll_places f fd) (sm : ∃ o, K.lookup sysModules = some o) (B : Gls mg) :
    FnG P w K mg base (L2.CX P w) 3 f fd ["places"] (spF 1 (fun ds => ∃ p : Int, ds = [.int p] ∧ place p) fun _ => .ok .none) := by
  refine fn_data F sc_need_poll_places sm (by decide) _ _ fun cdv A outer s H E Bs ds hl hp c ex => ?_
  obtain ⟨p, rfl, h1⟩ := hp
  have nd := sc_need_poll_places.nd
  refine gs_cons ?_
  repeat infer_instance
  have hn : natB ([PyData.int p].headD .none) = true := decide_eq_true (by rcases h1 with rfl | rfl <;> decide)
  rw [hn]
  show if false = true then _ else _
  repeat infer_instance
  rw [show decide ((([PyData.int 100, .int 1000] : List PyData).length : Int) ≤ p) = false from by rcases h1 with rfl | rfl <;> rfl]
  repeat infer_instance
  exact rfl
theorem ok_is_share (F1 : FNat P w K mg base) {f : Addr} {fd : FuncData} (F : Fun K "_is_share" "_is_share" s_is_share f fd) (sm : ∃ o, K.lookup sysModules = some o) (B : Gls mg) :
    FnG P w K mg base (L2.CX P w) 3 f fd ["value", "whole"] (spF 2 (fun ds => ∃ v u : Int, ds = [.int v, .int u] ∧ 0 ≤ v ∧ v ≤ u) fun _ => .ok (.bool true)) := by
  refine fn_data F sc_is_share sm (by decide) _ _ fun cdv A outer s H E Bs ds hl hp c ex => ?_
  obtain ⟨v, u, rfl, h1, h2⟩ := hp
  have nd := sc_is_share.nd
  refine gs_cons ?_
  repeat infer_instance
  have hn : natB ([PyData.int v].headD .none) = true := decide_eq_true h1
  rw [hn]
  repeat infer_instance
  rw [decide_eq_true h2]
/-- the stretch of counts that are told as the share; none if it is empty -/
def loI (s p u : Int) : Int := let l := ((2 * s - 1) * p + 2 * u - 1) / (2 * u); if l < 0 then 0 else l
def hiI (s p u : Int) : Int := let b := ((2 * s + 1) * p + 2 * u - 1) / (2 * u) - 1; if p < b then p else b
def cwO (s p u : Int) : PyData := if hiI s p u < loI s p u then .none else .tuple [.int (loI s p u), .int (hiI s p u)]
def cwD : List PyData → PyData
  | [.int s, .int p, .int u] => cwO s p u
  | _ => .none
theorem ok_counts_with {f : Addr} {fd : FuncData} (F : Fun K "counts_with" "counts_with" s_counts_with f fd) (sm : ∃ o, K.lookup sysModules = some o) (B : Gls mg) :
    FnG P w K mg base (L2.CX P w) 1 f fd ["share", "people", "whole"] (spF 3 (fun ds => ∃ s p u : Int, ds = [.int s, .int p, .int u] ∧ (0 ≤ s ∧ s ≤ 1001) ∧ (1 ≤ p ∧ p ≤ 20000) ∧ (u = 100 ∨ u = 1000)) fun ds => .ok (cwD ds)) := by
  refine fn_data F sc_counts_with sm (by decide) _ _ fun cdv A outer s H E Bs ds hl hp c ex => ?_
  obtain ⟨sh, p, u, rfl, h1, h2, h3⟩ := hp
  have nd := sc_counts_with.nd
  refine gs_cons ?_
  repeat infer_instance
  have e1 : cwD [.int sh, .int p, .int u] = cwO sh p u := rfl
  rw [e1]
  have e2 : hiI sh p u = (if p < ((2 * sh + 1) * p + 2 * u - 1) / (2 * u) - 1 then p else ((2 * sh + 1) * p + 2 * u - 1) / (2 * u) - 1) := rfl
  have e3 : loI sh p u = (if 0 > ((2 * sh - 1) * p + 2 * u - 1) / (2 * u) then 0 else ((2 * sh - 1) * p + 2 * u - 1) / (2 * u)) := rfl
  rw [← e2, ← e3]
  generalize hb : decide (hiI sh p u < loI sh p u) = t
  unfold cwO
  cases t
  · rw [if_neg (of_decide_eq_false hb)]
    repeat infer_instance
    exact rfl
  · rw [if_pos (of_decide_eq_true hb)]
    repeat infer_instance
    exact rfl
end
end K69
namespace K69
open PySem PySem.Spec PyProof.Rows L2 Tc Px Py
local macro_rules | `(tactic| fail "x6GE0") => `(tactic| first
  | ((with_reducible show GE _ _ (Expr.Subscript (Expr.Name "_WHOLES" _) _ _) _ _); (with_reducible apply ge_ixW); (exact ⟨rfl, rfl, rfl, rfl, rfl⟩); (assumption); (eq_refl); (exact fun _ _ => rfl); rotate_left; (decide))
  )
local macro_rules | `(tactic| infer_instance) => `(tactic| first
  | (with_reducible refine gs_nil ?_)
  | ((with_reducible show GE _ _ (Expr.Subscript (Expr.Name "_WHOLES" _) _ _) _ _); fail "x6GE0")
  )
section
variable {P : Program} {w : World} {K : PySem.W.Frag} {mg : Str → Option Value} {base : Heap}
theorem sc_need_shares : FnScope ["shares", "whole", "at", "share"] ["shares", "whole"] (defScope s_need_shares) := ⟨rfl, rfl, rfl, by decide +kernel, rfl, by decide +kernel, by decide +kernel⟩
theorem sc_need_poll : FnScope ["poll"] ["poll"] (defScope s_need_poll) := ⟨rfl, rfl, rfl, by decide +kernel, rfl, by decide +kernel, by decide +kernel⟩
theorem sc_init : FnScope ["self", "places", "shares", "share"] ["self", "places", "shares"] (defScope m_init) := ⟨rfl, rfl, rfl, by decide +kernel, rfl, by decide +kernel, by decide +kernel⟩
abbrev intsD (ns : List Int) : List PyData := ns.map .int
structure Shs (u : Int) (ns : List Int) : Prop where
  two : 2 ≤ ns.length
  six : ns.length ≤ 6
  ok : ∀ n ∈ ns, 0 ≤ n ∧ n ≤ u
theorem nth_int {ns : List Int} {i : Nat} (h : i < ns.length) : nth (intsD ns) i = .int ns[i] := by
  rw [nth_at (List.getElem?_eq_getElem (by rw [List.length_map]; exact h)), List.getElem_map]
theorem ok_need_shares (ms : ∃ t, mg "MOST_SHARES" = some (.int 6 t)) (ls : ∃ t, mg "_LEAST_SHARES" = some (.int 2 t)) (F1 : Call P w K mg base (L2.CX P w) 3 "_is_share" ["value", "whole"] (spF 2 (fun ds => ∃ v u : Int, ds = [.int v, .int u] ∧ 0 ≤ v ∧ v ≤ u) fun _ => .ok (.bool true)))
    {f : Addr} {fd : FuncData} (F : Fun K "_need_shares" "_need_shares" s_need_shares f fd) (sm : ∃ o, K.lookup sysModules = some o) (B : Gls mg) :
    FnG P w K mg base (L2.CX P w) 4 f fd ["shares", "whole"] (spF 2 (fun ds => ∃ (ns : List Int) (u : Int), ds = [.tuple (intsD ns), .int u] ∧ Shs u ns) fun _ => .ok .none) := by
  refine fn_data F sc_need_shares sm (by decide) _ _ fun cdv A outer s H E Bs ds hl hp c ex => ?_
  obtain ⟨ns, u, rfl, hs⟩ := hp
  have nd := sc_need_shares.nd
  refine gs_cons ?_
  repeat infer_instance
  rw [isD_tuple]
  dsimp only
  repeat infer_instance
  refine ⟨fun i Γ => ∃ (s2 s3 : Sl), Γ = [.d (.tuple (intsD ns)), .d (.int u), s2, s3], ⟨_, _, rfl⟩, fun _ _ _ _ => trivial, ?_, ?_⟩
  · rintro i Γ hi ⟨s2, s3, rfl⟩
    have hi : i < ns.length := by rw [List.length_map] at hi; exact hi
    have h6 := hs.six
    have ho := hs.ok _ (List.getElem_mem hi)
    show GG _ _ _ (.tuple [.int i, nth (intsD ns) i]) _ _
    rw [nth_int hi]
    generalize ns[i] = v at ho ⊢
    repeat infer_instance
    rw [eqv_int, decide_eq_false (show ¬ (i : Int) = 6 by omega)]
    repeat infer_instance
    refine ⟨⟨v, u, rfl, ho⟩, ?_⟩
    repeat infer_instance
    exact ⟨_, _, rfl⟩
  · rintro Γ ⟨s2, s3, rfl⟩
    have h2 := hs.two
    show Gs _ _ _ _ _
    refine gs_cons ?_
    repeat infer_instance
    rw [show decide (((intsD ns).length : Int) < 2) = false from decide_eq_false (by rw [List.length_map]; omega)]
    repeat infer_instance
    exact rfl
theorem ok_need_poll {C : Addr} (gv : mg "Poll" = some (.ref C)) (kv : KlsD K C) {f : Addr} {fd : FuncData} (F : Fun K "need_poll" "need_poll" s_need_poll f fd) (sm : ∃ o, K.lookup sysModules = some o) (B : Gls mg) :
    FnG P w K mg base (L2.CX P w) 1 f fd ["poll"] (spF 1 (fun ds => ∃ fs, ds = [inst C fs]) fun _ => .ok .none) := by
  refine fn_data F sc_need_poll sm (by decide) _ _ fun cdv A outer s H E Bs ds hl hp c ex => ?_
  obtain ⟨fs, rfl⟩ := hp
  have nd := sc_need_poll.nd
  refine gs_cons ?_
  repeat infer_instance
  refine .inr ⟨fs, rfl, ?_⟩
  repeat infer_instance
  exact rfl
theorem log_ok {i : Int} (h1 : 0 ≤ i) (h2 : i < 10 ^ 18) : i.natAbs.log2 < 1920 := by
  by_cases z : i.natAbs = 0
  · rw [z]
    decide
  · refine (Nat.log2_lt z).mpr (Nat.lt_of_lt_of_le (show i.natAbs < 2 ^ 64 by omega) (Nat.pow_le_pow_right (by decide) (by decide)))
abbrev itx (i : Int) : Str := toString i
def pollT (p : Int) (ns : List Int) : Str := Txt.join " " ("poll" :: itx p :: ns.map itx)
def pF (p : Int) (ns : List Int) : List (PyData × PyData) := [(.str "_places", .int p), (.str "_shares", .tuple (intsD ns)), (.str "_text", .str (pollT p ns))]
def asIs (xs : List PyData) : List Int := xs.map asI
def pollF : List PyData → List (PyData × PyData)
  | [.int p, .tuple xs] => pF p (asIs xs)
  | _ => []
def prePoll (ds : List PyData) : Prop := ∃ (p : Int) (ns : List Int), ds = [.int p, .tuple (intsD ns)] ∧ place p ∧ Shs (wholeI p) ns
theorem itx_len {n : Int} (h0 : 0 ≤ n) (h : n < 10 ^ 10) : (itx n).length ≤ 10 := PySem.W.KT.len_num h0 h
theorem place_u {p : Int} (h : place p) : (wholeI p = 100 ∨ wholeI p = 1000) ∧ 0 ≤ p ∧ p ≤ 1 := by
  rcases h with rfl | rfl
  · exact ⟨.inl rfl, by decide, by decide⟩
  · exact ⟨.inr rfl, by decide, by decide⟩
theorem texts_len {u : Int} {ns : List Int} (h : Shs u ns) (hu : u ≤ 1000) : ((ns.map itx).map fun x => x.length).sum ≤ 60 := by
  have h6 := h.six
  have ho := h.ok
  clear h
  have : ∀ ns : List Int, (∀ n ∈ ns, 0 ≤ n ∧ n ≤ u) → ((ns.map itx).map fun x => x.length).sum ≤ 10 * ns.length := by
    intro ns
    induction ns with
    | nil => intro _; exact Nat.le_refl _
    | cons n ns ih =>
      intro h
      have h1 := h n (.head _)
      have h2 := itx_len (n := n) (by omega) (by omega)
      have h3 := ih fun m hm => h m (.tail _ hm)
      rw [List.map_cons, List.map_cons, List.sum_cons, List.length_cons]
      omega
  have := this ns ho
  omega
theorem asIs_ints (ns : List Int) : asIs (intsD ns) = ns := by
  unfold asIs
  rw [List.map_map, show (asI ∘ PyData.int) = id from rfl, List.map_id]
theorem ok_init {C : Addr} (cl : Cls K C) (n1 : NoAttr K C "_places") (n2 : NoAttr K C "_shares") (n3 : NoAttr K C "_text")
    (F1 : Call P w K mg base (L2.CX P w) 3 "_need_poll_places" ["places"] (spF 1 (fun ds => ∃ p : Int, ds = [.int p] ∧ place p) fun _ => .ok .none))
    (F2 : Call P w K mg base (L2.CX P w) 4 "_need_shares" ["shares", "whole"] (spF 2 (fun ds => ∃ (ns : List Int) (u : Int), ds = [.tuple (intsD ns), .int u] ∧ Shs u ns) fun _ => .ok .none))
    (F3 : Call P w K mg base (L2.CX P w) 1 "whole_of" ["places"] (spF 1 (fun ds => ∃ p : Int, ds = [.int p] ∧ place p) fun ds => .ok (wholeD ds)))
    {f : Addr} {fd : FuncData} (F : Fun K "__init__" "Poll.__init__" m_init f fd) (sm : ∃ o, K.lookup sysModules = some o) (B : Gls mg) :
    FnG P w K mg base (L2.CX P w) 5 f fd ["self", "places", "shares"] (spI C 2 prePoll fun ds => .ok (pollF ds)) := by
  refine fn_init F sc_init sm rfl _ _ fun cdv A outer s H E G Hs0 a0 dx ds hl hp c ex => ?_
  obtain ⟨p, ns, rfl, hp1, hns⟩ := hp
  obtain ⟨pu, p0, p1⟩ := place_u hp1
  have nd := sc_init.nd
  refine gi_st ex fun gs hs ex1 => ?_
  repeat infer_instance
  refine ⟨⟨p, rfl, hp1⟩, ?_⟩
  repeat infer_instance
  refine gi_st ex fun gs hs ex2 => ?_
  repeat infer_instance
  refine ⟨⟨p, rfl, hp1⟩, ?_⟩
  show (Out.ok (.int (wholeI p))).to _ _
  repeat infer_instance
  refine ⟨⟨ns, _, rfl, hns⟩, ?_⟩
  repeat infer_instance
  refine gi_fld (i := 0) cl n1 (by decide) (by rfl) (by rfl) rfl (fun gs hs => ?_) (by decide) (by decide) rfl
  repeat infer_instance
  refine gi_fld (i := 0) cl n2 (by show 1 < 1000; decide) (by rfl) (by rfl) rfl (fun gs hs => ?_) (by decide) (by decide) rfl
  repeat infer_instance
  refine gi_fld (i := 0) cl n3 (by show 2 < 1000; decide) (by rfl) (by rfl) rfl (fun gs hs => ?_) (by decide) (by decide) rfl
  repeat infer_instance
  refine ⟨log_ok (by omega) (by omega), ?_⟩
  repeat infer_instance
  ((with_reducible apply gf_lk); (eq_refl); (assumption); (eq_refl); (eq_refl); (eq_refl); (intro _; eq_refl))
  repeat infer_instance
  refine ⟨Nat.le_trans (show (intsD ns).length ≤ 1000 by rw [List.length_map]; exact Nat.le_trans hns.six (by decide)) (by decide), fun _ => true, fun i => .str (itx (asI (nth (intsD ns) i))), fun i hi B' => ?_, ?_⟩
  · have hi : i < ns.length := by rw [List.length_map] at hi; exact hi
    have ho := hns.ok _ (List.getElem_mem hi)
    have eN := nth_int hi
    generalize ns[i] = v at ho eN
    rw [eN]
    repeat infer_instance
    refine ⟨log_ok (by omega) (by omega), ?_⟩
    exact ⟨by show PyData.str (itx v) = .str (itx (asI (nth (intsD ns) i))); rw [eN] <;> rfl, rfl⟩
  have eL : ((List.range (intsD ns).length).filter fun _ => true).map (fun i => PyData.str (itx (asI (nth (intsD ns) i)))) = (ns.map itx).map PyData.str := by
    rw [List.filter_eq_self.mpr fun _ _ => rfl]
    refine List.ext_getElem (by rw [List.length_map, List.length_range, List.length_map, List.length_map, List.length_map]) fun i h1 h2 => ?_
    have hi : i < ns.length := by rw [List.length_map, List.length_map] at h2; exact h2
    rw [List.getElem_map, List.getElem_range, nth_int hi, List.getElem_map, List.getElem_map] <;> rfl
  rw [eL]
  repeat infer_instance
  rw [List.append_nil]
  have hl6 := hns.six
  have hlen : ((ns.map itx).map PyData.str).length = ns.length := by rw [List.length_map, List.length_map]
  refine ⟨Nat.le_trans (show ((ns.map itx).map PyData.str).length + 2 ≤ 1000 by omega) (by decide), "poll" :: itx p :: ns.map itx, .inl rfl, ?_, rfl, ?_⟩
  · have l1 := itx_len (n := p) (by omega) (by omega)
    have l2 := texts_len hns (by omega)
    rw [List.map_cons, List.map_cons, List.sum_cons, List.sum_cons, List.length_cons, List.length_cons, List.length_map, show ("poll" : Str).length = 4 from rfl, show (" " : Str).length = 1 from rfl, Nat.mul_one]
    omega
  refine gi_nil ?_
  show OutI.ok (pF p (asIs (intsD ns))) = _
  rw [asIs_ints] <;> rfl
end
end K69
namespace K69
open PySem PySem.Spec PyProof.Rows L2 Tc Px Py
local macro_rules | `(tactic| fail "x7GE0") => `(tactic| first
  | ((with_reducible show GE _ _ (Expr.Subscript (Expr.Name "_WHOLES" _) _ _) _ _); (with_reducible apply ge_ixW); (exact ⟨rfl, rfl, rfl, rfl, rfl⟩); (assumption); (eq_refl); (exact fun _ _ => rfl); rotate_left; (decide))
  )
local macro_rules | `(tactic| infer_instance) => `(tactic| first
  | (with_reducible refine gs_nil ?_)
  | ((with_reducible show GE _ _ (Expr.Subscript (Expr.Name "_WHOLES" _) _ _) _ _); fail "x7GE0")
  )
section
variable {P : Program} {w : World} {K : PySem.W.Frag} {mg : Str → Option Value} {base : Heap}
structure Cts (ns : List Int) : Prop where
  two : 2 ≤ ns.length
  six : ns.length ≤ 6
  nn : ∀ n ∈ ns, 0 ≤ n
  pos : 0 < ns.sum
  lt : ns.sum < 2 ^ 400
theorem sum_ge : ∀ {ns : List Int}, (∀ n ∈ ns, 0 ≤ n) → 0 ≤ ns.sum ∧ ∀ n ∈ ns, n ≤ ns.sum
  | [], _ => ⟨Int.le_refl _, fun _ h => nomatch h⟩
  | x :: ns, h => by
    obtain ⟨h1, h2⟩ := sum_ge (ns := ns) fun n hn => h n (.tail _ hn)
    have hx := h x (.head _)
    rw [List.sum_cons]
    refine ⟨by omega, fun n hn => ?_⟩
    rcases List.mem_cons.mp hn with rfl | hn
    · omega
    · have := h2 n hn
      omega
def soL (u : Int) (ns : List Int) : List Int := ns.map fun n => nearI (u * n) ns.sum
theorem ints_isI (ns : List Int) : (intsD ns).all isI = true := by
  rw [List.all_map]
  exact List.all_eq_true.mpr fun _ _ => rfl
theorem near_le {u n S : Int} (hu : 0 ≤ u) (hn : 0 ≤ n) (hS : 0 < S) (h : n ≤ S) : 0 ≤ nearI (u * n) S ∧ nearI (u * n) S ≤ u := by
  have h1 : u * n ≤ u * S := Int.mul_le_mul_of_nonneg_left h hu
  have h2 : 0 ≤ u * n := Int.mul_nonneg hu hn
  unfold nearI
  refine ⟨Int.ediv_nonneg (by omega) (by omega), ?_⟩
  refine Int.lt_add_one_iff.mp (Int.ediv_lt_of_lt_mul (by omega) ?_)
  have e : (u + 1) * (2 * S) = 2 * (u * S) + 2 * S := by rw [Int.add_mul, Int.one_mul, Int.mul_left_comm]
  rw [e]
  omega
theorem fil_ints {ns : List Int} (g : Int → Int) : ((List.range (intsD ns).length).filter fun _ => true).map (fun i => PyData.int (g (asI (nth (intsD ns) i)))) = intsD (ns.map g) := by
  rw [List.filter_eq_self.mpr fun _ _ => rfl]
  refine List.ext_getElem (by rw [List.length_map, List.length_range, List.length_map, List.length_map, List.length_map]) fun i h1 h2 => ?_
  have hi : i < ns.length := by rw [List.length_map, List.length_map] at h2; exact h2
  rw [List.getElem_map, List.getElem_range, nth_int hi, List.getElem_map, List.getElem_map] <;> rfl
theorem so_shs {u : Int} {ns : List Int} (hu : 0 ≤ u) (h : Cts ns) : Shs u (soL u ns) := by
  refine ⟨by unfold soL; rw [List.length_map]; exact h.two, by unfold soL; rw [List.length_map]; exact h.six, fun m hm => ?_⟩
  obtain ⟨n, hn, rfl⟩ := List.mem_map.mp hm
  exact near_le hu (h.nn n hn) h.pos ((sum_ge h.nn).2 n hn)
end
end K69
namespace K69
open PySem PySem.Spec PyProof.Rows L2 Tc Px Py
local macro_rules | `(tactic| fail "x8GE0") => `(tactic| first
  | ((with_reducible show GE _ _ (Expr.Subscript (Expr.Name "_WHOLES" _) _ _) _ _); (with_reducible apply ge_ixW); (exact ⟨rfl, rfl, rfl, rfl, rfl⟩); (assumption); (eq_refl); (exact fun _ _ => rfl); rotate_left; (decide))
  )
local macro_rules | `(tactic| fail "x8GT1") => `(tactic| first
  | ((with_reducible show GT _ _ (Expr.Compare _ [CmpOp.In] _ _) _ _); (with_reducible apply gt_inA); (first | with_reducible assumption | exact Bod.toCxt (by with_reducible assumption) | exact Cxt.blk (Bod.toCxt (by with_reducible assumption)) _ _ _ _ _ _ | exact Cxt.blk (Cxt.blk (Bod.toCxt (by with_reducible assumption)) _ _ _ _ _ _) _ _ _ _ _ _); (eq_refl))
  )
local macro_rules | `(tactic| fail "x8G12") => `(tactic| first
  | ((with_reducible show G1 _ _ (Stmt.Expr (Expr.Call (Expr.Attribute (Expr.Name _ _) "append" _) [_] _ _) _) _ _); (with_reducible apply g1_append); (eq_refl); (eq_refl); (eq_refl); rotate_left; (decide); (decide); (eq_refl); (eq_refl); (eq_refl); (exact star_cons rfl); (eq_refl))
  )
local macro_rules | `(tactic| infer_instance) => `(tactic| first
  | (with_reducible refine gs_nil ?_)
  | ((with_reducible show GE _ _ (Expr.Subscript (Expr.Name "_WHOLES" _) _ _) _ _); fail "x8GE0")
  | ((with_reducible show GT _ _ (Expr.Compare _ [CmpOp.In] _ _) _ _); fail "x8GT1")
  | ((with_reducible show G1 _ _ (Stmt.Expr (Expr.Call (Expr.Attribute (Expr.Name _ _) "append" _) [_] _ _) _) _ _); fail "x8G12")
  )
section
variable {P : Program} {w : World} {K : PySem.W.Frag} {mg : Str → Option Value} {base : Heap}
theorem sc_count_stretches : FnScope ["poll", "people", "whole", "stretches", "share", "low", "_", "high"] ["poll", "people"] (defScope s_count_stretches) := ⟨rfl, rfl, rfl, by decide +kernel, rfl, by decide +kernel, by decide +kernel⟩
theorem sc_stretches_for : FnScope ["poll", "people"] ["poll", "people"] (defScope s_stretches_for) := ⟨rfl, rfl, rfl, by decide +kernel, rfl, by decide +kernel, by decide +kernel⟩
def preCs (C : Addr) (ds : List PyData) : Prop := ∃ (q p : Int) (ns : List Int), ds = [inst C (pF q ns), .int p] ∧ place q ∧ Shs (wholeI q) ns ∧ 1 ≤ p ∧ p ≤ 20000
/-- the stretches of all shares -/
def stL (p u : Int) (ns : List Int) : List (Int × Int) := ns.map fun s => (loI s p u, hiI s p u)
def noneB (l : List (Int × Int)) : Bool := l.any fun x => decide (x.2 < x.1)
def loS (l : List (Int × Int)) : Int := (l.map (·.1)).sum
def hiS (l : List (Int × Int)) : Int := (l.map (·.2)).sum
def fitB (p : Int) (l : List (Int × Int)) : Bool := !noneB l && (decide (loS l ≤ p) && decide (p ≤ hiS l))
def strP (x : Int × Int) : PyData := .tuple [.int x.1, .int x.2]
def csO (p u : Int) (ns : List Int) : PyData := if fitB p (stL p u ns) = true then .list ((stL p u ns).map strP) else .none
def csD : List PyData → PyData
  | [.dict [_, (_, .int q), (_, .tuple xs), _], .int p] => csO p (wholeI q) (asIs xs)
  | _ => .none
theorem fil_intsD {ns : List Int} (g : Int → PyData) : ((List.range (intsD ns).length).filter fun _ => true).map (fun i => g (asI (nth (intsD ns) i))) = ns.map g := by
  rw [List.filter_eq_self.mpr fun _ _ => rfl]
  refine List.ext_getElem (by rw [List.length_map, List.length_range, List.length_map, List.length_map]) fun i h1 h2 => ?_
  have hi : i < ns.length := by rw [List.length_map] at h2; exact h2
  rw [List.getElem_map, List.getElem_range, nth_int hi, List.getElem_map] <;> rfl
theorem shaped_st {L : List PyData} (h : ∀ d ∈ L, d = .none ∨ ∃ a b : Int, d = .tuple [.int a, .int b]) : SeqAt.shaped (.list L) = true := by
  have k : PyData.canLayAll0 L = true ∧ PyData.depthAll L ≤ 1 := by
    induction L with
    | nil => exact ⟨rfl, Nat.zero_le _⟩
    | cons d L ih =>
      obtain ⟨i1, i2⟩ := ih fun x hx => h x (.tail _ hx)
      rcases h d (.head _) with rfl | ⟨a, b, rfl⟩
      · refine ⟨?_, ?_⟩
        · show (true && PyData.canLayAll0 L) = true
          rw [i1] <;> rfl
        · show max 0 (PyData.depthAll L) ≤ 1
          omega
      · refine ⟨?_, ?_⟩
        · show ((true && (true && true)) && PyData.canLayAll0 L) = true
          rw [i1] <;> rfl
        · show max (max 0 (max 0 0) + 1) (PyData.depthAll L) ≤ 1
          omega
  show (PyData.canLayAll0 L && decide (PyData.depthAll L + 1 ≤ 64)) = true
  rw [k.1, decide_eq_true (by omega)] <;> rfl
theorem cw_none {ns : List Int} {p u : Int} : (ns.map (fun n => cwO n p u)).any (fun z => PyData.eqv z .none) = noneB (stL p u ns) := by
  unfold noneB stL
  rw [List.any_map, List.any_map]
  congr 1
  funext n
  show PyData.eqv (cwO n p u) .none = decide (hiI n p u < loI n p u)
  unfold cwO
  by_cases h : hiI n p u < loI n p u
  · rw [if_pos h, decide_eq_true h] <;> rfl
  · rw [if_neg h, decide_eq_false h] <;> rfl
theorem cw_list {ns : List Int} {p u : Int} (h : noneB (stL p u ns) = false) : ns.map (fun n => cwO n p u) = (stL p u ns).map strP := by
  unfold stL
  rw [List.map_map]
  refine List.map_congr_left fun n hn => ?_
  have := List.any_eq_false.mp h (loI n p u, hiI n p u) (List.mem_map.mpr ⟨n, hn, rfl⟩)
  have : ¬ hiI n p u < loI n p u := fun z => this (decide_eq_true z)
  unfold cwO
  rw [if_neg this] <;> rfl
theorem nth_str {L : List (Int × Int)} {i : Nat} (h : i < L.length) : nth (L.map strP) i = strP L[i] := by
  rw [nth_at (List.getElem?_eq_getElem (by rw [List.length_map]; exact h)), List.getElem_map]
theorem getD_lt {L : List (Int × Int)} {i : Nat} (h : i < L.length) : L.getD i (0, 0) = L[i] := by
  rw [List.getD_eq_getElem?_getD, List.getElem?_eq_getElem h] <;> rfl
theorem fil_pair {L : List (Int × Int)} {g : Int × Int → Int} : ((List.range L.length).filter fun _ => true).map (fun i => PyData.int (g (L.getD i (0, 0)))) = intsD (L.map g) := by
  rw [List.filter_eq_self.mpr fun _ _ => rfl]
  refine List.ext_getElem (by rw [List.length_map, List.length_range, List.length_map, List.length_map]) fun i h1 h2 => ?_
  have hi : i < L.length := by rw [List.length_map, List.length_map] at h2; exact h2
  rw [List.getElem_map, List.getElem_range, getD_lt hi, List.getElem_map, List.getElem_map]
theorem ok_count_stretches {C : Addr} (DP : PropD P w K mg base C "places" "_places" 1) (DS : PropD P w K mg base C "shares" "_shares" 1) (F1 : Call P w K mg base (L2.CX P w) 1 "whole_of" ["places"] (spF 1 (fun ds => ∃ p : Int, ds = [.int p] ∧ place p) fun ds => .ok (wholeD ds))) (F2 : Call P w K mg base (L2.CX P w) 1 "counts_with" ["share", "people", "whole"] (spF 3 (fun ds => ∃ s p u : Int, ds = [.int s, .int p, .int u] ∧ (0 ≤ s ∧ s ≤ 1001) ∧ (1 ≤ p ∧ p ≤ 20000) ∧ (u = 100 ∨ u = 1000)) fun ds => .ok (cwD ds))) {f : Addr} {fd : FuncData} (F : Fun K "_count_stretches" "_count_stretches" s_count_stretches f fd) (sm : ∃ o, K.lookup sysModules = some o) (B : Gls mg) :
    FnG P w K mg base (L2.CX P w) 3 f fd ["poll", "people"] (spF 2 (preCs C) fun ds => .ok (csD ds)) := by
  refine fn_data F sc_count_stretches sm (by decide) _ _ fun cdv A outer s H E Bs ds hl hp c ex => ?_
  obtain ⟨q, p, ns, rfl, hq, hns, p0, p1⟩ := hp
  obtain ⟨pu, q0, q1⟩ := place_u hq
  have nd := sc_count_stretches.nd
  refine gs_cons ?_
  repeat infer_instance
  refine ⟨_, _, rfl, rfl, ?_⟩
  repeat infer_instance
  refine ⟨⟨q, rfl, hq⟩, ?_⟩
  show (Out.ok (.int (wholeI q))).to _ _
  repeat infer_instance
  ((with_reducible apply set_ld); (assumption); (assumption); (eq_refl); (eq_refl); (eq_refl); (eq_refl); (eq_refl); (eq_refl); (intro _; eq_refl))
  repeat infer_instance
  refine ⟨_, _, rfl, rfl, ?_⟩
  repeat infer_instance
  have h6 := hns.six
  refine ⟨Nat.le_trans (show (intsD ns).length ≤ 1000 by rw [List.length_map]; omega) (by decide), fun _ => true, fun i => cwO (asI (nth (intsD ns) i)) p (wholeI q), fun i hi B' => ?_, ?_⟩
  · have hi : i < ns.length := by rw [List.length_map] at hi; exact hi
    have ho := hns.ok _ (List.getElem_mem hi)
    have eN := nth_int hi
    generalize ns[i] = v at eN ho
    rw [eN]
    repeat infer_instance
    refine ⟨⟨v, p, _, rfl, ⟨ho.1, by omega⟩, ⟨p0, p1⟩, pu⟩, ?_⟩
    show (Out.ok (cwO v p (wholeI q))).to _ _
    refine to_ok ?_
    exact ⟨by show cwO v p (wholeI q) = cwO (asI (nth (intsD ns) i)) p (wholeI q); rw [eN] <;> rfl, rfl⟩
  rw [fil_intsD fun n => cwO n p (wholeI q)]
  have e1 : csD [inst C (pF q ns), .int p] = csO p (wholeI q) ns := by
    show csO p (wholeI q) (asIs (intsD ns)) = _
    rw [asIs_ints]
  rw [e1]
  have hLs : ∀ d ∈ ns.map (fun n => cwO n p (wholeI q)), d = .none ∨ ∃ a b : Int, d = .tuple [.int a, .int b] := fun d hd => by
    obtain ⟨n, _, rfl⟩ := List.mem_map.mp hd
    unfold cwO
    split
    · exact .inl rfl
    · exact .inr ⟨_, _, rfl⟩
  have hLn : (ns.map (fun n => cwO n p (wholeI q))).any (fun z => PyData.eqv z .none) = noneB (stL p (wholeI q) ns) := cw_none
  repeat infer_instance
  refine ⟨_, rfl, rfl, shaped_st hLs, ?_⟩
  rw [hLn]
  cases hN : noneB (stL p (wholeI q) ns)
  case true =>
    have e0 : csO p (wholeI q) ns = .none := by unfold csO fitB; rw [hN] <;> rfl
    rw [e0]
    repeat infer_instance
    exact rfl
  have e0 : csO p (wholeI q) ns = (if (decide (loS (stL p (wholeI q) ns) ≤ p) && decide (p ≤ hiS (stL p (wholeI q) ns))) = true then .list ((stL p (wholeI q) ns).map strP) else .none) := by unfold csO fitB; rw [hN] <;> rfl
  rw [e0, cw_list hN]
  clear e0
  have hL6 : (stL p (wholeI q) ns).length ≤ 6 := by unfold stL; rw [List.length_map]; exact h6
  generalize stL p (wholeI q) ns = L at hL6 ⊢
  repeat infer_instance
  ((with_reducible apply gf_lk); (eq_refl); (assumption); (eq_refl); (eq_refl); (eq_refl); (intro _; eq_refl))
  repeat infer_instance
  refine ⟨Nat.le_trans (show (L.map strP).length ≤ 1000 by rw [List.length_map]; omega) (by decide), fun _ => true, fun i => .int (L.getD i (0, 0)).1, fun i hi B' => ?_, ?_⟩
  · have hi : i < L.length := by rw [List.length_map] at hi; exact hi
    have eN : nth (L.map strP) i = strP L[i] := nth_str hi
    have eG : L.getD i (0, 0) = L[i] := getD_lt hi
    generalize L[i] = v at eN eG
    rw [eN]
    unfold strP
    repeat infer_instance
    exact ⟨by show PyData.int v.1 = .int (L.getD i (0, 0)).1; rw [eG], rfl⟩
  rw [show (L.map strP).length = L.length from List.length_map _, fil_pair (g := fun x => x.1)]
  refine sum_lst (ints_isI _) ?_
  rw [show (intsD (L.map fun x => x.1)).map asI = L.map fun x => x.1 from asIs_ints _]
  repeat infer_instance
  rw [show decide ((L.map fun x => x.1).sum > p) = !decide (loS L ≤ p) from by
    by_cases h : loS L ≤ p
    · rw [decide_eq_true h, decide_eq_false (show ¬ (L.map fun x => x.1).sum > p from Int.not_lt.mpr h)] <;> rfl
    · rw [decide_eq_false h, decide_eq_true (show (L.map fun x => x.1).sum > p from Int.not_le.mp h)] <;> rfl]
  cases hA : decide (loS L ≤ p)
  · repeat infer_instance
    exact rfl
  repeat infer_instance
  ((with_reducible apply gf_lk); (eq_refl); (assumption); (eq_refl); (eq_refl); (eq_refl); (intro _; eq_refl))
  repeat infer_instance
  refine ⟨Nat.le_trans (show (L.map strP).length ≤ 1000 by rw [List.length_map]; omega) (by decide), fun _ => true, fun i => .int (L.getD i (0, 0)).2, fun i hi B' => ?_, ?_⟩
  · have hi : i < L.length := by rw [List.length_map] at hi; exact hi
    have eN : nth (L.map strP) i = strP L[i] := nth_str hi
    have eG : L.getD i (0, 0) = L[i] := getD_lt hi
    generalize L[i] = v at eN eG
    rw [eN]
    unfold strP
    repeat infer_instance
    exact ⟨by show PyData.int v.2 = .int (L.getD i (0, 0)).2; rw [eG], rfl⟩
  rw [show (L.map strP).length = L.length from List.length_map _, fil_pair (g := fun x => x.2)]
  refine sum_lst (ints_isI _) ?_
  rw [show (intsD (L.map fun x => x.2)).map asI = L.map fun x => x.2 from asIs_ints _]
  repeat infer_instance
  rw [show decide ((L.map fun x => x.2).sum < p) = !decide (p ≤ hiS L) from by
    by_cases h : p ≤ hiS L
    · rw [decide_eq_true h, decide_eq_false (show ¬ (L.map fun x => x.2).sum < p from Int.not_lt.mpr h)] <;> rfl
    · rw [decide_eq_false h, decide_eq_true (show (L.map fun x => x.2).sum < p from Int.not_le.mp h)] <;> rfl]
  cases hB : decide (p ≤ hiS L)
  · repeat infer_instance
    exact rfl
  repeat infer_instance
  exact rfl
end
end K69
namespace K69
open PySem PySem.Spec PyProof.Rows L2 Tc Px Py
local macro_rules | `(tactic| fail "x9GE0") => `(tactic| first
  | ((with_reducible show GE _ _ (Expr.Subscript (Expr.Name "_WHOLES" _) _ _) _ _); (with_reducible apply ge_ixW); (exact ⟨rfl, rfl, rfl, rfl, rfl⟩); (assumption); (eq_refl); (exact fun _ _ => rfl); rotate_left; (decide))
  )
local macro_rules | `(tactic| fail "x9GT1") => `(tactic| first
  | ((with_reducible show GT _ _ (Expr.Compare _ [CmpOp.In] _ _) _ _); (with_reducible apply gt_inA); (first | with_reducible assumption | exact Bod.toCxt (by with_reducible assumption) | exact Cxt.blk (Bod.toCxt (by with_reducible assumption)) _ _ _ _ _ _ | exact Cxt.blk (Cxt.blk (Bod.toCxt (by with_reducible assumption)) _ _ _ _ _ _) _ _ _ _ _ _); (eq_refl))
  )
local macro_rules | `(tactic| fail "x9G12") => `(tactic| first
  | ((with_reducible show G1 _ _ (Stmt.Expr (Expr.Call (Expr.Attribute (Expr.Name _ _) "append" _) [_] _ _) _) _ _); (with_reducible apply g1_append); (eq_refl); (eq_refl); (eq_refl); rotate_left; (decide); (decide); (eq_refl); (eq_refl); (eq_refl); (exact star_cons rfl); (eq_refl))
  )
local macro_rules | `(tactic| infer_instance) => `(tactic| first
  | (with_reducible refine gs_nil ?_)
  | ((with_reducible show GE _ _ (Expr.Subscript (Expr.Name "_WHOLES" _) _ _) _ _); fail "x9GE0")
  | ((with_reducible show GT _ _ (Expr.Compare _ [CmpOp.In] _ _) _ _); fail "x9GT1")
  | ((with_reducible show G1 _ _ (Stmt.Expr (Expr.Call (Expr.Attribute (Expr.Name _ _) "append" _) [_] _ _) _) _ _); fail "x9G12")
  )
section
variable {P : Program} {w : World} {K : PySem.W.Frag} {mg : Str → Option Value} {base : Heap}
theorem cs_eq {C : Addr} {q p : Int} {ns : List Int} : csD [inst C (pF q ns), .int p] = csO p (wholeI q) ns := by
  show csO p (wholeI q) (asIs (intsD ns)) = _
  rw [asIs_ints]
theorem ok_stretches_for {C : Addr} (F1 : Call P w K mg base (L2.CX P w) 1 "need_poll" ["poll"] (spF 1 (fun ds => ∃ fs, ds = [inst C fs]) fun _ => .ok .none)) (F2 : Call P w K mg base (L2.CX P w) 2 "need_people" ["people", "most"] (spF 2 (fun ds => ∃ p : Int, ds = [.int p, .none] ∧ 1 ≤ p) fun _ => .ok .none)) (F3 : Call P w K mg base (L2.CX P w) 3 "_count_stretches" ["poll", "people"] (spF 2 (preCs C) fun ds => .ok (csD ds))) {f : Addr} {fd : FuncData} (F : Fun K "_stretches_for" "_stretches_for" s_stretches_for f fd) (sm : ∃ o, K.lookup sysModules = some o) (B : Gls mg) :
    FnG P w K mg base (L2.CX P w) 4 f fd ["poll", "people"] (spF 2 (preCs C) fun ds => .ok (csD ds)) := by
  refine fn_data F sc_stretches_for sm (by decide) _ _ fun cdv A outer s H E Bs ds hl hp c ex => ?_
  obtain ⟨q, p, ns, rfl, hq, hns, p0, p1⟩ := hp
  have nd := sc_stretches_for.nd
  refine gs_cons ?_
  repeat infer_instance
  refine ⟨⟨_, rfl⟩, ?_⟩
  repeat infer_instance
  refine ⟨⟨p, rfl, p0⟩, ?_⟩
  repeat infer_instance
  refine ⟨⟨q, p, ns, rfl, hq, hns, p0, p1⟩, ?_⟩
  repeat infer_instance
  exact rfl
def mn (a b : Int) : Int := if b < a then b else a
/-- the counts from the last one on -/
def fl : Int → List (Int × Int) → List Int
  | _, [] => []
  | l, x :: R => (x.1 + mn l (x.2 - x.1)) :: fl (l - mn l (x.2 - x.1)) R
end
end K69
namespace K69
open PySem PySem.Spec PyProof.Rows L2 Tc Px Py
local macro_rules | `(tactic| infer_instance) => `(tactic| (with_reducible refine gs_nil ?_))
section
variable {P : Program} {w : World} {K : PySem.W.Frag} {mg : Str → Option Value} {base : Heap}
/-- a well -/
def Well (ps : List PyData) : Prop := ∃ a b c : Int, ps = [.int a, .int b, .int c] ∧ 0 ≤ a ∧ 0 ≤ b ∧ b < 2147483423
def preDraw (ps ds : List PyData) : Prop := Well ps ∧ ∃ top : Int, ds = [.int top] ∧ 0 < top ∧ top < 2 ^ 120
theorem divp_ok {i j : Int} (h : 0 < j) (h2 : j.natAbs < 2 ^ 600) : CDivP i j := ⟨h, PyProof.noPylong_of_log2 (wide_div h h2 (by decide) (by decide) : CDivW i j).2⟩
/-- a number below the given one, the well a draw further -/
def RDraw (ps ds : List PyData) (o : Out) (ps' : List PyData) : Prop := Well ps' ∧ ∃ t top : Int, ds = [.int top] ∧ o = .ok (.int t) ∧ 0 ≤ t ∧ t < top
theorem sc_ldraw : FnScope ["_law_well_here", "_law_top", "_law_old", "_law_figure"] ["_law_well_here", "_law_top"] (defScope s_ldraw) := ⟨rfl, rfl, rfl, by decide +kernel, rfl, by decide +kernel, by decide +kernel⟩
theorem ok_draw {f : Addr} {fd : FuncData} (F : Fun K "_law_draw" "_law_draw" s_ldraw f fd) (sm : ∃ o, K.lookup sysModules = some o) (B : Gls mg) :
    FnG P w K mg base (L2.CX P w) 1 f fd ["_law_well_here", "_law_top"] (spP 1 preDraw RDraw) := by
  refine fn_pail F sc_ldraw sm rfl _ _ fun cdv A outer s H E Bs ad ms ds hl hp c ex => ?_
  have nd := sc_ldraw.nd
  obtain ⟨⟨a, b, c0, rfl, ha, hb, hb2⟩, top, rfl, ht, ht2⟩ := hp
  refine gs_cons ?_
  repeat infer_instance
  generalize h1 : decide (0 < a) = t
  cases t
  case false =>
    repeat infer_instance
    exact ⟨⟨a, _, _, rfl, ha, Int.emod_nonneg _ (by decide), Int.emod_lt_of_pos _ (by decide)⟩, _, top, rfl, rfl, Int.emod_nonneg _ (by omega), Int.emod_lt_of_pos _ ht⟩
  repeat infer_instance
  refine ⟨divp_ok ht (by omega), ?_⟩
  repeat infer_instance
  exact ⟨⟨_, _, _, rfl, Int.ediv_nonneg ha (by omega), Int.emod_nonneg _ (by decide), Int.emod_lt_of_pos _ (by decide)⟩, _, top, rfl, rfl, Int.emod_nonneg _ (by omega), Int.emod_lt_of_pos _ ht⟩
theorem sc_lwell : FnScope ["_law_script", "_law_k", "_law_own", "_law_mixed", "_law_each"] ["_law_script", "_law_k"] (defScope s_lwell) := ⟨rfl, rfl, rfl, by decide +kernel, rfl, by decide +kernel, by decide +kernel⟩
theorem g_lwell : ∀ x ∈ (["int", "len", "abs"] : List Str), (defScope s_lwell).names.lookup x = some .globalImplicit := by decide +kernel
def spWell (K : PySem.W.Frag) : Sp := fun vs H Q _ => ∃ (a : Addr) (ns : List Int) (k : Nat), vs = [.ref a, .int k] ∧ k < 5 ∧ SqL K H a (ns.map V.int) ∧ ns.length ≤ 63 ∧
  ∀ (H' : Hp) (p : Addr), H p = none → Same H H' → (∃ x y : Int, H' p = some (.lst [.int x, .int y, .int 0]) ∧ 0 ≤ x ∧ 0 ≤ y ∧ y < 2147483423) → Q (.ref p) H'
theorem mem_of_cut {ns : List Int} {lo hi : Option Int} {o : Int} {i : Nat} {y : V} (h : (cutV (ns.map V.int) lo hi ++ [V.int o])[i]? = some y) : ∃ z, y = V.int z := by
  have m : y ∈ cutV (ns.map V.int) lo hi ++ [V.int o] := List.mem_of_getElem? h
  rcases List.mem_append.mp m with m | m
  · have m2 := List.mem_of_mem_drop (List.mem_of_mem_take m)
    obtain ⟨z, _, e⟩ := List.mem_map.mp m2
    exact ⟨z, e.symm⟩
  · exact ⟨o, List.mem_singleton.mp m⟩
theorem ok_well {f : Addr} {fd : FuncData} (F : Fun K "_law_well" "_law_well" s_lwell f fd) (B : Gls mg) :
    FnOk P w K mg base CX0 1 f fd ["_law_script", "_law_k"] (spWell K) := by
  refine F.ok sc_lwell (fun vs H Q E h => ?_) (fun cdv A outer s H vs Q E hr h => ?_)
  · obtain ⟨a, ns, k, rfl, _⟩ := h
    rfl
  · obtain ⟨a, ns, k, rfl, hk, hS, hlen, hQ⟩ := h
    refine ⟨_, pss_mid (ps_set (i := 2) sc_lwell.nd rfl (.inl rfl) (pe_ifExp (pt_cmpR op_lt (pv 1) (pe_callB call_len (g_lwell _ (.tail _ (.head _))) B.len (by decide +kernel) (pa_cons (pv 0) pa_nil)) (nomark _))
        (pe_callTy call_int1 (g_lwell _ (.head _)) B.int (by decide +kernel) (pa_cons (pe_ix ix_list (pv 0) (pv 1) (fun _ _ => rfl)) pa_nil)) (pe_op op_add (pe_op op_mul pe_int (pv 1)) pe_int)))
      (pss_cons (ps_set (i := 3) sc_lwell.nd rfl (.inl rfl) (pe_op op_add pe_int (pe_op op_mul pe_int (pv 1))))
      (pss_cons (ps_for PassesOwn.never rfl (pi_list (pe_op op_cat (pe_slice sl_list (pv 0) po_none (po_some pe_int)) (pe_lst (pa_cons (pv 2) pa_nil)))) (pg_name (i := 4) sc_lwell.nd rfl (.inl rfl))
        (pss_one (ps_set (i := 3) sc_lwell.nd rfl (.inl rfl) (pe_op op_mod (pe_callTy call_int1 (g_lwell _ (.head _)) B.int (by decide +kernel)
          (pa_cons (pe_op op_add (pe_op op_mul (pv 3) pe_int) (pe_callTy call_int1 (g_lwell _ (.head _)) B.int (by decide +kernel) (pa_cons (pv 4) pa_nil))) pa_nil)) pe_int))))
      (pss_one (ps_ret (pe_lst (pa_cons (pe_ifExp (PW.pt (pw_or (pt_cmpR op_lt (pv 2) pe_int (nomark _)) (pw_or1 (pt_cmpR op_ge (pv 2) (pe_op op_pow pe_int pe_int) (nomark _)))))
        (pe_callB call_abs (g_lwell _ (.tail _ (.tail _ (.head _)))) B.abs (by decide +kernel) (pa_cons (pv 2) pa_nil)) pe_int) (pa_cons (pv 3) (pa_cons pe_int pa_nil)))))))), ?_⟩
    refine ⟨fun σ' H' => H' = H ∧ ∃ z : Int, σ' = [some (.ref a), some (.int k), some (.int z), none, none], ?_, ?_⟩
    · refine ⟨_, rfl, _, rfl, _, _, rfl, .inl ⟨_, hS, rfl⟩, _, _, rfl, rfl, _, rfl, ?_⟩
      refine ite2 (fun hc => ?_) (fun _ => ?_)
      · rw [List.length_map] at hc
        have hk2 : k < ns.length := by have := of_decide_eq_true hc; omega
        have hat : atI (ns.map V.int) (k : Int) = some (V.int ns[k]) := atI_nat (by simp [hk2])
        exact ⟨_, rfl, _, rfl, a, _, _, _, rfl, rfl, hS, hat, .inl ⟨_, rfl, rfl, _, rfl⟩⟩
      · exact ⟨_, rfl, _, _, rfl, rfl, .inl ⟨by decide, by decide⟩, _, _, rfl, rfl, rfl, _, rfl⟩
    rintro σ' H' ⟨rfl, z, rfl⟩
    refine ⟨_, rfl, _, _, rfl, rfl, .inl ⟨by decide, by decide⟩, _, _, rfl, rfl, ?_⟩
    refine ⟨_, rfl, _, rfl, a, _, rfl, hS, fun p hp => ?_⟩
    refine ⟨_, rfl, (show 1 ≤ sizeLine by decide), fun p2 hp2 => ?_⟩
    have n12 : p ≠ p2 := fun e => by rw [← e, upd_same] at hp2; cases hp2
    have lc : (cutV (ns.map V.int) none (some 40)).length ≤ 63 := by
      unfold cutV
      rw [List.length_take, List.length_drop, List.length_map]
      omega
    refine ⟨p, p2, _, _, rfl, rfl, (upd_ne n12).trans upd_same, upd_same, Nat.le_trans (show _ + 1 ≤ 64 by omega) (by decide), fun p3 hp3 => ?_⟩
    have s0 : Same H' (upd (upd (upd H' p (.lst (cutV (ns.map V.int) none (some 40)))) p2 (.lst [V.int z])) p3 (.lst (cutV (ns.map V.int) none (some 40) ++ [V.int z]))) := (Same.new hp).trans ((Same.new hp2).trans (Same.new hp3))
    generalize hU : upd (upd (upd H' p (.lst (cutV (ns.map V.int) none (some 40)))) p2 (.lst [V.int z])) p3 (.lst (cutV (ns.map V.int) none (some 40) ++ [V.int z])) = U at s0 ⊢
    have hl : U p3 = some (.lst (cutV (ns.map V.int) none (some 40) ++ [V.int z])) := by rw [← hU]; exact upd_same
    refine ⟨p3, rfl, ⟨_, .inl (.inl hl)⟩, for_list (K := K) (a := p3) (xs := cutV (ns.map V.int) none (some 40) ++ [V.int z])
      (fun _ σ H2 => ∃ (mixed : Int) (v : Option V), σ = [some (.ref a), some (.int k), some (.int z), some (.int mixed), v] ∧
        Same U H2 ∧ 0 ≤ mixed ∧ mixed < 2147483423)
      ⟨_, none, rfl, Same.refl _, by omega, by omega⟩ (fun _ _ _ _ ⟨_, _, _, s2, _⟩ => .inl (.inl (s2 _ _ hl))) ?_ ?_⟩
    · rintro i y σ H2 hi ⟨mixed, v, rfl, s2, h0, h1⟩
      obtain ⟨e, rfl⟩ := mem_of_cut hi
      refine ⟨_, rfl, _, _, rfl, rfl, .inr ⟨by decide, by decide⟩, _, rfl, .inl ⟨_, rfl, _, _, rfl, rfl, .inl ⟨_, rfl, _, _, rfl, rfl, ?_, ?_⟩⟩⟩
      · show (0 : Int) < 2147483423
        decide
      · exact ⟨_, _, rfl, s2, Int.emod_nonneg _ (by decide), Int.emod_lt_of_pos _ (by decide)⟩
    · rintro σ H2 ⟨mixed, v, rfl, s2, h0, h1⟩
      have s3 : Same H' H2 := s0.trans s2
      have absd : ∀ z : Int, 0 ≤ (if z < 0 then -z else z) := fun z => by split <;> omega
      have fin : ∀ d : Int, 0 ≤ d → ∀ p2, H2 p2 = none → Q (.ref p2) (upd H2 p2 (.lst [V.int d, V.int mixed, V.int 0])) := fun d hd p2 hp2 => hQ _ p2 (s3.free hp2) (s3.trans (Same.new hp2)) ⟨d, mixed, upd_same, hd, h0, h1⟩
      refine ⟨_, rfl, _, _, rfl, rfl, _, rfl, ?_⟩
      refine ite2 (fun _ => ?_) (fun _ => ?_)
      · exact ⟨_, rfl, _, rfl, _, rfl, (show 3 ≤ sizeLine by decide), fin _ (absd _)⟩
      · refine ⟨_, rfl, _, _, rfl, rfl, ⟨by decide, by decide, by decide⟩, _, _, rfl, rfl, _, rfl, ?_⟩
        refine ite2 (fun _ => ?_) (fun _ => ?_)
        · exact ⟨_, rfl, _, rfl, _, rfl, (show 3 ≤ sizeLine by decide), fin _ (absd _)⟩
        · exact ⟨_, rfl, (show 3 ≤ sizeLine by decide), fin 0 (by decide)⟩
end
end K69
namespace K69
open PySem PySem.Spec PyProof.Rows L2 Tc Px Py
local macro_rules | `(tactic| fail "x11G10") => `(tactic| first
  | ((with_reducible show G1 _ _ (Stmt.Assign [Expr.Tuple [Expr.Name _ _, Expr.Name _ _] _ _] (Expr.Tuple [Expr.BinOp (Expr.List _ _) Operator.Mult _ _, _] _ _) _) _ _); (with_reducible apply par_on); (with_reducible assumption); (assumption); (eq_refl); (eq_refl); (eq_refl); (eq_refl); (eq_refl); (eq_refl); (eq_refl); (eq_refl); (exact star_cons rfl); (exact star_cons rfl))
  )
local macro_rules | `(tactic| fail "x11G11") => `(tactic| first
  | ((with_reducible show G1 _ _ (Stmt.Assign [Expr.Tuple [Expr.Name _ _, Expr.Name _ _, Expr.Name _ _] _ _] (Expr.Tuple [_, _, _] _ _) _) _ _); (with_reducible apply par_n3); (with_reducible assumption); (assumption); (eq_refl); (eq_refl); (eq_refl); (eq_refl); (eq_refl); (eq_refl); (eq_refl); (eq_refl); (eq_refl); (eq_refl); (eq_refl); (eq_refl))
  )
local macro_rules | `(tactic| fail "x11G12") => `(tactic| first
  | ((with_reducible show G1 _ _ (Stmt.Expr (Expr.Call (Expr.Attribute (Expr.Name _ _) "append" _) [_] _ _) _) _ _); (with_reducible apply g1_append); (eq_refl); (eq_refl); (eq_refl); rotate_left; (decide); (decide); (eq_refl); (eq_refl); (eq_refl); (exact star_cons rfl); (eq_refl))
  )
local macro_rules | `(tactic| fail "x11G13") => `(tactic| first
  | ((with_reducible show G1 _ _ (Stmt.Assign [Expr.Tuple [Expr.Name _ _, Expr.Name _ _] _ _] (Expr.Tuple [Expr.List _ _, _] _ _) _) _ _); (with_reducible apply par_on); (with_reducible assumption); (assumption); (eq_refl); (eq_refl); (eq_refl); (eq_refl); (eq_refl); (eq_refl); (eq_refl); (eq_refl); (exact star_cons rfl); (exact star_cons rfl))
  )
local macro_rules | `(tactic| fail "x11G1") => `(tactic| first
  | ((with_reducible show G1 _ _ (Stmt.Assign [Expr.Tuple [Expr.Name _ _, Expr.Name _ _] _ _] (Expr.Tuple [Expr.BinOp (Expr.List _ _) Operator.Mult _ _, _] _ _) _) _ _); fail "x11G10")
  | ((with_reducible show G1 _ _ (Stmt.Assign [Expr.Tuple [Expr.Name _ _, Expr.Name _ _, Expr.Name _ _] _ _] (Expr.Tuple [_, _, _] _ _) _) _ _); fail "x11G11")
  | ((with_reducible show G1 _ _ (Stmt.Expr (Expr.Call (Expr.Attribute (Expr.Name _ _) "append" _) [_] _ _) _) _ _); fail "x11G12")
  | ((with_reducible show G1 _ _ (Stmt.Assign [Expr.Tuple [Expr.Name _ _, Expr.Name _ _] _ _] (Expr.Tuple [Expr.List _ _, _] _ _) _) _ _); fail "x11G13")
  )
local macro_rules | `(tactic| fail "x11GE4") => `(tactic| first
  | ((with_reducible show GE _ _ (Expr.Call (Expr.Name _ _) [] [_] _) _ _); (with_reducible apply ge_callR1); (case F => with_reducible assumption); (exact ⟨rfl, rfl, rfl, rfl, rfl⟩); (first | with_reducible assumption | exact Bod.toCxt (by with_reducible assumption) | exact Cxt.blk (Bod.toCxt (by with_reducible assumption)) _ _ _ _ _ _ | exact Cxt.blk (Cxt.blk (Bod.toCxt (by with_reducible assumption)) _ _ _ _ _ _) _ _ _ _ _ _); (eq_refl); (eq_refl); (first | with_reducible assumption | exact Exc.none); rotate_left; (decide); (eq_refl); (eq_refl); (eq_refl); (eq_refl))
  )
local macro_rules | `(tactic| infer_instance) => `(tactic| first
  | ((with_reducible show G1 _ _ _ _ _); fail "x11G1")
  | ((with_reducible show GQ _ _ false (Expr.Name _ _) _ _); (with_reducible refine gq_of ?_))
  | ((with_reducible show GE _ _ (Expr.Call (Expr.Name _ _) [] [_] _) _ _); fail "x11GE4")
  | ((with_reducible show ∃ d1 d2 d3, _ = [d1, d2, d3] ∧ _); refine ⟨_, _, _, rfl, rfl, rfl, rfl, ?_⟩)
  | ((with_reducible show ∀ B0 : Bas, GE B0 _ _ _ _); intro _)
  | ((with_reducible show ∃ ds0, _ = (if false = true then PyData.list ds0 else PyData.tuple ds0) ∧ _); refine ⟨_, rfl, ?_⟩)
  )
section
variable {P : Program} {w : World} {K : PySem.W.Frag} {mg : Str → Option Value} {base : Heap}
theorem sc_lnear : FnScope ["_law_unit", "_law_one", "_law_people"] ["_law_unit", "_law_one", "_law_people"] (defScope s_lnear) := ⟨rfl, rfl, rfl, by decide +kernel, rfl, by decide +kernel, by decide +kernel⟩
theorem sc_ldealt : FnScope ["_law_well_here", "_law_many", "_law_people", "_law_found", "_law_rest", "_law_turn", "_law_at"] ["_law_well_here", "_law_many", "_law_people"] (defScope s_ldealt) := ⟨rfl, rfl, rfl, by decide +kernel, rfl, by decide +kernel, by decide +kernel⟩
abbrev unit (u : Int) : Prop := u = 100 ∨ u = 1000
def preNear (ds : List PyData) : Prop := ∃ u o p : Int, ds = [.int u, .int o, .int p] ∧ unit u ∧ 0 < p ∧ p < 2 ^ 500
def nearLD : List PyData → PyData
  | [.int u, .int o, .int p] => .int (nearI (u * o) p)
  | _ => .none
theorem ok_near {f : Addr} {fd : FuncData} (F : Fun K "_law_near" "_law_near" s_lnear f fd) (sm : ∃ o, K.lookup sysModules = some o) (B : Gls mg) :
    FnG P w K mg base (L2.CX P w) 1 f fd ["_law_unit", "_law_one", "_law_people"] (spF 3 preNear fun ds => .ok (nearLD ds)) := by
  refine fn_data F sc_lnear sm (by decide) _ _ fun cdv A outer s H E Bs ds hl hp c ex => ?_
  obtain ⟨u, o, p, rfl, hu, p0, p1⟩ := hp
  have nd := sc_lnear.nd
  refine gs_cons ?_
  have e : nearI (u * o) p = (2 * u * o + p) / (2 * p) := by unfold nearI; rw [Int.mul_assoc]
  repeat infer_instance
  show Out.ok (.int (nearI (u * o) p)) = Out.ok (.int ((2 * u * o + p) / (2 * p)))
  rw [e]
theorem at_snoc {xs : List PyData} {d : PyData} {k : PyData → Prop} (h : k d) : IxD (.list (xs ++ [d])) (.int (-1)) k := by
  refine ⟨d, ?_, h⟩
  have l : (xs ++ [d]).length = xs.length + 1 := by rw [List.length_append] <;> rfl
  unfold atD ixN
  rw [if_neg (by decide), if_pos (by omega)]
  show (xs ++ [d])[((-1 : Int) + ((xs ++ [d]).length : Int)).toNat]? = _
  rw [show ((-1 : Int) + ((xs ++ [d]).length : Int)).toNat = xs.length by omega, List.getElem?_append_right (Nat.le_refl _), Nat.sub_self] <;> rfl
theorem cut_from {xs : List PyData} {v : Int} (h0 : 0 ≤ v) (h1 : v ≤ xs.length) : Px.cutD xs (some v) none = xs.drop v.toNat := by
  unfold Px.cutD
  rw [show HT.sIx xs.length 0 (some v) = v.toNat from by show (if v < 0 then _ else min v.toNat xs.length) = _; rw [if_neg (by omega)]; omega]
  exact List.take_of_length_le (by rw [List.length_drop]; exact Nat.le_refl _)
theorem cut_to {xs : List PyData} {v : Int} (h0 : 0 ≤ v) (h1 : v ≤ xs.length) : Px.cutD xs none (some v) = xs.take v.toNat := by
  unfold Px.cutD
  rw [show HT.sIx xs.length xs.length (some v) = v.toNat from by show (if v < 0 then _ else min v.toNat xs.length) = _; rw [if_neg (by omega)]; omega]
  rfl
def preDe (ps ds : List PyData) : Prop := Well ps ∧ ∃ m p : Int, ds = [.int m, .int p] ∧ 2 ≤ m ∧ m ≤ 6 ∧ 0 ≤ p ∧ p ≤ 100000
def RDe (_ ds : List PyData) (o : Out) (ps' : List PyData) : Prop := Well ps' ∧ ∃ (m p : Int) (ns : List Int), ds = [.int m, .int p] ∧ o = .ok (.list (intsD ns)) ∧ (ns.length : Int) = m ∧ (∀ n ∈ ns, 0 ≤ n) ∧ ns.sum = p
theorem ok_dealt (F1 : Call P w K mg base (L2.CX P w) 1 "_law_draw" ["_law_well_here", "_law_top"] (spP 1 preDraw RDraw)) {f : Addr} {fd : FuncData} (F : Fun K "_law_dealt" "_law_dealt" s_ldealt f fd) (sm : ∃ o, K.lookup sysModules = some o) (B : Gls mg) :
    FnG P w K mg base (L2.CX P w) 2 f fd ["_law_well_here", "_law_many", "_law_people"] (spP 2 preDe RDe) := by
  refine fn_pail F sc_ldealt sm rfl _ _ fun cdv A outer s H E Bs ad ms ds hl hp c ex => ?_
  obtain ⟨hw, m, p, rfl, m2, m6, p0, p1⟩ := hp
  have nd := sc_ldealt.nd
  refine gs_cons ?_
  repeat infer_instance
  refine ⟨by omega, by omega, fun i Γ => ∃ (a2 : Addr) (ms2 : List PyData) (s5 s6 : Sl) (fs : List Int) (r : Int), Γ = [.own ad ms2, .d (.int m), .d (.int p), .own a2 (intsD fs), .d (.int r), s5, s6] ∧ Well ms2 ∧ fs.length = i ∧ (∀ n ∈ fs, 0 ≤ n) ∧ 0 ≤ r ∧ fs.sum + r = p, ⟨_, _, _, _, [], p, rfl, hw, rfl, fun _ h => (nomatch h), p0, by show 0 + p = p; omega⟩, fun _ _ _ _ => trivial, ?_, ?_⟩
  · clear hw
    rintro i Γ hi ⟨a2, ms2, s5, s6, fs, r, rfl, hw, hf, hn, r0, er⟩
    have hi : (i : Int) < m - 1 := by omega
    have hs := sum_ge hn
    repeat infer_instance
    refine ⟨⟨hw, _, rfl, by first | decide | omega, by first | decide | omega⟩, fun o ms1 hR => ?_⟩
    clear hw
    obtain ⟨hw, v, top, e, rfl, v0, v1⟩ := hR
    cases e
    refine to_ok ?_
    repeat infer_instance
    refine ⟨Nat.lt_of_le_of_lt (show (intsD fs).length ≤ 1000 by rw [List.length_map]; omega) (by decide), ?_⟩
    repeat infer_instance
    refine at_snoc ?_
    repeat infer_instance
    repeat (with_reducible refine gs_nil ?_)
    refine ⟨a2, ms1, _, _, fs ++ [v], r - v, by rw [show intsD (fs ++ [v]) = intsD fs ++ [.int v] from List.map_append] <;> rfl, hw, by rw [List.length_append, hf] <;> rfl, fun n hn2 => ?_, by omega, by rw [List.sum_append]; show fs.sum + (v + 0) + (r - v) = p; omega⟩
    rcases List.mem_append.mp hn2 with h | h
    · exact hn n h
    · rw [List.mem_singleton.mp h]
      exact v0
  clear hw
  rintro Γ ⟨a2, ms2, s5, s6, fs, r, rfl, hw, hf, hn, r0, er⟩
  repeat infer_instance
  have hf2 : (fs.length : Int) = m - 1 := by omega
  refine ⟨Nat.lt_of_le_of_lt (show (intsD fs).length ≤ 1000 by rw [List.length_map]; omega) (by decide), ?_⟩
  repeat infer_instance
  refine ⟨⟨hw, _, rfl, by first | decide | omega, by first | decide | omega⟩, fun o ms1 hR => ?_⟩
  clear hw
  obtain ⟨hw, v, top, e, rfl, v0, v1⟩ := hR
  cases e
  refine to_ok ?_
  repeat infer_instance
  have eF : intsD fs ++ [.int r] = intsD (fs ++ [r]) := by unfold intsD; rw [List.map_append] <;> rfl
  rw [eF]
  have hl : ((intsD (fs ++ [r])).length : Int) = m := by rw [List.length_map, List.length_append]; show ((fs.length + 1 : Nat) : Int) = m; omega
  rw [cut_from v0 (by omega), cut_to v0 (by omega)]
  refine add_l2 (Nat.ble_eq_true_of_le (by
    rw [← List.length_append, List.length_append, List.length_drop, List.length_take]
    omega)) ?_
  have eG : (intsD (fs ++ [r])).drop v.toNat ++ (intsD (fs ++ [r])).take v.toNat = intsD ((fs ++ [r]).drop v.toNat ++ (fs ++ [r]).take v.toNat) := by
    generalize fs ++ [r] = gs
    unfold intsD
    rw [List.map_append, List.map_drop, List.map_take]
  rw [eG]
  repeat infer_instance
  refine ⟨hw, m, p, _, rfl, rfl, ?_, fun n hn2 => ?_, ?_⟩
  · rw [List.length_append, List.length_drop, List.length_take]
    rw [List.length_map] at hl
    omega
  · have : n ∈ fs ++ [r] := (List.mem_append.mp hn2).elim (fun h => List.mem_of_mem_drop h) fun h => List.mem_of_mem_take h
    rcases List.mem_append.mp this with h | h
    · exact hn n h
    · rw [List.mem_singleton.mp h]
      exact r0
  · have e := congrArg List.sum (List.take_append_drop v.toNat (fs ++ [r]))
    rw [List.sum_append, List.sum_append] at e
    rw [List.sum_append]
    have e2 : ([r] : List Int).sum = r := by show r + 0 = r; omega
    omega
end
end K69
namespace K69
open PySem PySem.Spec PyProof.Rows L2 Tc Px Py
section
variable {P : Program} {w : World} {K : PySem.W.Frag} {mg : Str → Option Value} {base : Heap}
theorem sc_twice : FnScope ["poll"] ["poll"] (defScope s_twice) := ⟨rfl, rfl, rfl, by decide +kernel, rfl, by decide +kernel, by decide +kernel⟩
theorem sc_leasts : FnScope ["poll", "share"] ["poll"] (defScope s_leasts) := ⟨rfl, rfl, rfl, by decide +kernel, rfl, by decide +kernel, by decide +kernel⟩
theorem sc_behinds : FnScope ["poll", "share"] ["poll"] (defScope s_behinds) := ⟨rfl, rfl, rfl, by decide +kernel, rfl, by decide +kernel, by decide +kernel⟩
theorem sc_rounded_up : FnScope ["parts", "people", "twice", "part"] ["parts", "people", "twice"] (defScope s_rounded_up) := ⟨rfl, rfl, rfl, by decide +kernel, rfl, by decide +kernel, by decide +kernel⟩
def prePl (C : Addr) (ds : List PyData) : Prop := ∃ (q : Int) (ns : List Int), ds = [inst C (pF q ns)] ∧ place q ∧ Shs (wholeI q) ns
/-- the least parts, the parts behind -/
def lsI (ns : List Int) : List Int := (ns.filter fun s => decide (s > 0)).map fun s => 2 * s - 1
def bsI (ns : List Int) : List Int := ns.map fun s => 2 * s + 1
def onPl (g : Int → List Int → PyData) : List PyData → PyData
  | [.dict [_, (_, .int q), (_, .tuple xs), _]] => g (wholeI q) (asIs xs)
  | _ => .none
theorem on_pl {C : Addr} {q : Int} {ns : List Int} (g : Int → List Int → PyData) : onPl g [inst C (pF q ns)] = g (wholeI q) ns := by
  show g (wholeI q) (asIs (intsD ns)) = _
  rw [asIs_ints]
def twD : List PyData → PyData := onPl fun u _ => .int (2 * u)
def lsD' : List PyData → PyData := onPl fun _ ns => .list (intsD (lsI ns))
def bsD : List PyData → PyData := onPl fun _ ns => .list (intsD (bsI ns))
theorem fil_pg {ns : List Int} (p : Int → Bool) (g : Int → Int) : ((List.range (intsD ns).length).filter fun i => p (asI (nth (intsD ns) i))).map (fun i => PyData.int (g (asI (nth (intsD ns) i)))) = intsD ((ns.filter p).map g) := by
  have e : (List.range (intsD ns).length).map (fun i => asI (nth (intsD ns) i)) = ns := by
    refine List.ext_getElem (by rw [List.length_map, List.length_range, List.length_map]) fun i h1 h2 => ?_
    rw [List.getElem_map, List.getElem_range, nth_int h2] <;> rfl
  have q : ((List.range (intsD ns).length).map (fun i => asI (nth (intsD ns) i))).filter p = ((List.range (intsD ns).length).filter fun i => p (asI (nth (intsD ns) i))).map fun i => asI (nth (intsD ns) i) := by
    rw [List.filter_map] <;> rfl
  rw [e] at q
  rw [q]
  unfold intsD
  rw [List.map_map, List.map_map] <;> rfl
theorem ok_twice {C : Addr} (DP : PropD P w K mg base C "places" "_places" 1) (F1 : Call P w K mg base (L2.CX P w) 1 "whole_of" ["places"] (spF 1 (fun ds => ∃ p : Int, ds = [.int p] ∧ place p) fun ds => .ok (wholeD ds))) {f : Addr} {fd : FuncData} (F : Fun K "_twice" "_twice" s_twice f fd) (sm : ∃ o, K.lookup sysModules = some o) (B : Gls mg) :
    FnG P w K mg base (L2.CX P w) 3 f fd ["poll"] (spF 1 (prePl C) fun ds => .ok (twD ds)) := by
  refine fn_data F sc_twice sm (by decide) _ _ fun cdv A outer s H E Bs ds hl hp c ex => ?_
  obtain ⟨q, ns, rfl, hq, hns⟩ := hp
  obtain ⟨pu, q0, q1⟩ := place_u hq
  have nd := sc_twice.nd
  rw [show twD [inst C (pF q ns)] = .int (2 * wholeI q) from on_pl _]
  refine gs_cons ?_
  repeat infer_instance
  refine ⟨_, _, rfl, rfl, ?_⟩
  repeat infer_instance
  refine ⟨⟨q, rfl, hq⟩, ?_⟩
  show (Out.ok (.int (wholeI q))).to _ _
  repeat infer_instance
  exact rfl
theorem ok_leasts {C : Addr} (DS : PropD P w K mg base C "shares" "_shares" 1) {f : Addr} {fd : FuncData} (F : Fun K "_leasts" "_leasts" s_leasts f fd) (sm : ∃ o, K.lookup sysModules = some o) (B : Gls mg) :
    FnG P w K mg base (L2.CX P w) 3 f fd ["poll"] (spF 1 (prePl C) fun ds => .ok (lsD' ds)) := by
  refine fn_data F sc_leasts sm (by decide) _ _ fun cdv A outer s H E Bs ds hl hp c ex => ?_
  obtain ⟨q, ns, rfl, hq, hns⟩ := hp
  obtain ⟨pu, q0, q1⟩ := place_u hq
  have nd := sc_leasts.nd
  rw [show lsD' [inst C (pF q ns)] = .list (intsD (lsI ns)) from on_pl _]
  refine gs_cons ?_
  repeat infer_instance
  ((with_reducible apply gf_lk); (eq_refl); (assumption); (eq_refl); (eq_refl); (eq_refl); (intro _; eq_refl))
  repeat infer_instance
  refine ⟨_, _, rfl, rfl, ?_⟩
  repeat infer_instance
  have h6 := hns.six
  refine ⟨Nat.le_trans (show (intsD ns).length ≤ 1000 by rw [List.length_map]; omega) (by decide), fun i => decide (asI (nth (intsD ns) i) > 0), fun i => .int (2 * asI (nth (intsD ns) i) - 1), fun i hi B' => ?_, ?_⟩
  · have hi : i < ns.length := by rw [List.length_map] at hi; exact hi
    have ho := hns.ok _ (List.getElem_mem hi)
    have eN := nth_int hi
    generalize ns[i] = v at eN ho
    rw [eN]
    repeat infer_instance
    refine ⟨by show decide (0 < v) = decide (asI (nth (intsD ns) i) > 0); rw [eN] <;> rfl, ?_⟩
    generalize decide (0 < v) = t
    cases t
    · exact rfl
    · repeat infer_instance
      exact ⟨by show _ = PyData.int _; rw [eN] <;> rfl, rfl⟩
  repeat infer_instance
  show Out.ok _ = Out.ok _
  rw [fil_pg (fun s => decide (s > 0)) fun s => 2 * s - 1] <;> rfl
theorem ok_behinds {C : Addr} (DS : PropD P w K mg base C "shares" "_shares" 1) {f : Addr} {fd : FuncData} (F : Fun K "_behinds" "_behinds" s_behinds f fd) (sm : ∃ o, K.lookup sysModules = some o) (B : Gls mg) :
    FnG P w K mg base (L2.CX P w) 3 f fd ["poll"] (spF 1 (prePl C) fun ds => .ok (bsD ds)) := by
  refine fn_data F sc_behinds sm (by decide) _ _ fun cdv A outer s H E Bs ds hl hp c ex => ?_
  obtain ⟨q, ns, rfl, hq, hns⟩ := hp
  obtain ⟨pu, q0, q1⟩ := place_u hq
  have nd := sc_behinds.nd
  rw [show bsD [inst C (pF q ns)] = .list (intsD (bsI ns)) from on_pl _]
  refine gs_cons ?_
  repeat infer_instance
  ((with_reducible apply gf_lk); (eq_refl); (assumption); (eq_refl); (eq_refl); (eq_refl); (intro _; eq_refl))
  repeat infer_instance
  refine ⟨_, _, rfl, rfl, ?_⟩
  repeat infer_instance
  have h6 := hns.six
  refine ⟨Nat.le_trans (show (intsD ns).length ≤ 1000 by rw [List.length_map]; omega) (by decide), fun _ => true, fun i => .int (2 * asI (nth (intsD ns) i) + 1), fun i hi B' => ?_, ?_⟩
  · have hi : i < ns.length := by rw [List.length_map] at hi; exact hi
    have ho := hns.ok _ (List.getElem_mem hi)
    have eN := nth_int hi
    generalize ns[i] = v at eN ho
    rw [eN]
    repeat infer_instance
    exact ⟨by show _ = PyData.int _; rw [eN] <;> rfl, rfl⟩
  rw [fil_ints fun s => 2 * s + 1]
  repeat infer_instance
  exact rfl
def preUp (ds : List PyData) : Prop := ∃ (ps : List Int) (n t : Int), ds = [.list (intsD ps), .int n, .int t] ∧ (∀ p ∈ ps, 0 ≤ p ∧ p ≤ 3000) ∧ ps.length ≤ 6 ∧ 0 ≤ n ∧ n ≤ 100000 ∧ (t = 200 ∨ t = 2000)
def upL (t n : Int) (ps : List Int) : List Int := ps.map fun p => Pm.up t n p
def upD : List PyData → PyData
  | [.list xs, .int n, .int t] => .list (intsD (upL t n (asIs xs)))
  | _ => .none
theorem ok_rounded_up {f : Addr} {fd : FuncData} (F : Fun K "_rounded_up" "_rounded_up" s_rounded_up f fd) (sm : ∃ o, K.lookup sysModules = some o) (B : Gls mg) :
    FnG P w K mg base (L2.CX P w) 1 f fd ["parts", "people", "twice"] (spF 3 preUp fun ds => .ok (upD ds)) := by
  refine fn_data F sc_rounded_up sm (by decide) _ _ fun cdv A outer s H E Bs ds hl hp c ex => ?_
  obtain ⟨ps, n, t, rfl, hps, h6, n0, n1, ht⟩ := hp
  have nd := sc_rounded_up.nd
  rw [show upD [.list (intsD ps), .int n, .int t] = .list (intsD (upL t n ps)) from by
    show PyData.list (intsD (upL t n (asIs (intsD ps)))) = _
    rw [asIs_ints]]
  refine gs_cons ?_
  repeat infer_instance
  ((with_reducible apply gf_lk); (eq_refl); (assumption); (eq_refl); (eq_refl); (eq_refl); (intro _; eq_refl))
  repeat infer_instance
  refine ⟨Nat.le_trans (show (intsD ps).length ≤ 1000 by rw [List.length_map]; omega) (by decide), fun _ => true, fun i => .int (Pm.up t n (asI (nth (intsD ps) i))), fun i hi B' => ?_, ?_⟩
  · have hi : i < ps.length := by rw [List.length_map] at hi; exact hi
    have ho := hps _ (List.getElem_mem hi)
    have eN := nth_int hi
    generalize ps[i] = v at eN ho
    rw [eN]
    repeat infer_instance
    exact ⟨by show _ = PyData.int _; rw [eN] <;> rfl, rfl⟩
  rw [fil_ints fun p => Pm.up t n p]
  repeat infer_instance
  exact rfl
end
end K69
namespace K69
open PySem PySem.Spec PyProof.Rows L2 Tc Px Py
local macro_rules | `(tactic| fail "x13GE0") => `(tactic| first
  | ((with_reducible show GE _ _ (Expr.Call (Expr.Name "gcd" _) [_, _] [] _) _ _); (with_reducible apply ge_gcd); (case hx => with_reducible assumption); (exact ⟨rfl, rfl, rfl, rfl, rfl⟩); (eq_refl); (decide); rotate_left; (exact star_cons rfl); (eq_refl))
  )
local macro_rules | `(tactic| fail "x13G11") => `(tactic| first
  | ((with_reducible show G1 _ _ (Stmt.Assign [Expr.Tuple [Expr.Name _ _, Expr.Name _ _, Expr.Name _ _] _ _] (Expr.Tuple [_, _, _] _ _) _) _ _); (with_reducible apply par_n3); (with_reducible assumption); (assumption); (eq_refl); (eq_refl); (eq_refl); (eq_refl); (eq_refl); (eq_refl); (eq_refl); (eq_refl); (eq_refl); (eq_refl); (eq_refl); (eq_refl))
  )
local macro_rules | `(tactic| infer_instance) => `(tactic| first
  | ((with_reducible show GE _ _ (Expr.Call (Expr.Name "gcd" _) [_, _] [] _) _ _); fail "x13GE0")
  | ((with_reducible show G1 _ _ (Stmt.Assign [Expr.Tuple [Expr.Name _ _, Expr.Name _ _, Expr.Name _ _] _ _] (Expr.Tuple [_, _, _] _ _) _) _ _); fail "x13G11")
  | ((with_reducible show ∃ d1 d2 d3, _ = [d1, d2, d3] ∧ _); refine ⟨_, _, _, rfl, rfl, rfl, rfl, ?_⟩)
  )
section
variable {P : Program} {w : World} {K : PySem.W.Frag} {mg : Str → Option Value} {base : Heap}
theorem sc_fits_none : FnScope ["poll", "twice"] ["poll"] (defScope s_fits_none) := ⟨rfl, rfl, rfl, by decide +kernel, rfl, by decide +kernel, by decide +kernel⟩
theorem sc_fits_multiples : FnScope ["poll"] ["poll"] (defScope s_fits_multiples) := ⟨rfl, rfl, rfl, by decide +kernel, rfl, by decide +kernel, by decide +kernel⟩
theorem sc_multiplied : FnScope ["poll", "twice", "common", "part"] ["poll"] (defScope s_multiplied) := ⟨rfl, rfl, rfl, by decide +kernel, rfl, by decide +kernel, by decide +kernel⟩
theorem sc_behind_gaps : FnScope ["poll", "twice", "leasts", "behinds", "last_above", "last_below"] ["poll"] (defScope s_behind_gaps) := ⟨rfl, rfl, rfl, by decide +kernel, rfl, by decide +kernel, by decide +kernel⟩
def noneI (u : Int) (ns : List Int) : Bool := decide ((lsI ns).sum > 2 * u) || decide ((bsI ns).sum ≤ 2 * u)
def fnD : List PyData → PyData := onPl fun u ns => .bool (noneI u ns)
def fmD : List PyData → PyData := onPl fun u ns => .bool (decide ((lsI ns).sum = 2 * u))
theorem sum_le {l : List Int} {b : Int} (h : ∀ x ∈ l, 0 ≤ x ∧ x ≤ b) : 0 ≤ l.sum ∧ l.sum ≤ l.length * b := by
  induction l with
  | nil => simp
  | cons x l ih =>
    have h1 := h x (.head _)
    have h2 := ih fun y hy => h y (.tail _ hy)
    rw [List.sum_cons, List.length_cons, Int.natCast_add, Int.add_mul]
    omega
theorem ls_ok {u : Int} {ns : List Int} (h : Shs u ns) : ∀ x ∈ lsI ns, 1 ≤ x ∧ x ≤ 2 * u := fun x hx => by
  obtain ⟨s, hs, rfl⟩ := List.mem_map.mp hx
  obtain ⟨hs, h0⟩ := List.mem_filter.mp hs
  have := h.ok s hs
  have := of_decide_eq_true h0
  omega
theorem bs_ok {u : Int} {ns : List Int} (h : Shs u ns) : ∀ x ∈ bsI ns, 1 ≤ x ∧ x ≤ 2 * u + 1 := fun x hx => by
  obtain ⟨s, hs, rfl⟩ := List.mem_map.mp hx
  have := h.ok s hs
  omega
theorem ls_len (ns : List Int) : (lsI ns).length ≤ ns.length := by
  unfold lsI
  rw [List.length_map]
  exact List.length_filter_le _ _
theorem ls_sum {u : Int} {ns : List Int} (h : Shs u ns) (hu : u = 100 ∨ u = 1000) : 0 ≤ (lsI ns).sum ∧ (lsI ns).sum ≤ 20000 := by
  have h6 := h.six
  have a := sum_le (l := lsI ns) (b := 2001) fun x hx => by have := ls_ok h x hx; omega
  have b := ls_len ns
  have : ((lsI ns).length : Int) * 2001 ≤ 6 * 2001 := Int.mul_le_mul_of_nonneg_right (by omega) (by decide)
  omega
theorem bs_sum {u : Int} {ns : List Int} (h : Shs u ns) (hu : u = 100 ∨ u = 1000) : 0 ≤ (bsI ns).sum ∧ (bsI ns).sum ≤ 20000 := by
  have h6 := h.six
  have a := sum_le (l := bsI ns) (b := 2001) fun x hx => by have := bs_ok h x hx; omega
  have b : (bsI ns).length = ns.length := List.length_map _
  have : ((bsI ns).length : Int) * 2001 ≤ 6 * 2001 := Int.mul_le_mul_of_nonneg_right (by omega) (by decide)
  omega
theorem sum_intsL {ns : List Int} {k : PyData → Prop} (h : k (.int ns.sum)) : SumD (.list (intsD ns)) k := by
  refine sum_lst (ints_isI ns) ?_
  rw [show (intsD ns).map asI = ns from asIs_ints ns]
  exact h
theorem ok_fits_none {C : Addr} (FT : Call P w K mg base (L2.CX P w) 3 "_twice" ["poll"] (spF 1 (prePl C) fun ds => .ok (twD ds)))(FL : Call P w K mg base (L2.CX P w) 3 "_leasts" ["poll"] (spF 1 (prePl C) fun ds => .ok (lsD' ds)))(FB : Call P w K mg base (L2.CX P w) 3 "_behinds" ["poll"] (spF 1 (prePl C) fun ds => .ok (bsD ds))){f : Addr} {fd : FuncData} (F : Fun K "_fits_none" "_fits_none" s_fits_none f fd) (sm : ∃ o, K.lookup sysModules = some o) (B : Gls mg) :
    FnG P w K mg base (L2.CX P w) 4 f fd ["poll"] (spF 1 (prePl C) fun ds => .ok (fnD ds)) := by
  refine fn_data F sc_fits_none sm (by decide) _ _ fun cdv A outer s H E Bs ds hl hp c ex => ?_
  have pp : prePl C ds := hp
  obtain ⟨q, ns, rfl, hq, hns⟩ := hp
  obtain ⟨pu, q0, q1⟩ := place_u hq
  have nd := sc_fits_none.nd
  have h6 := hns.six
  have eT : twD [inst C (pF q ns)] = .int (2 * wholeI q) := on_pl _
  have eL : lsD' [inst C (pF q ns)] = .list (intsD (lsI ns)) := on_pl _
  have eB : bsD [inst C (pF q ns)] = .list (intsD (bsI ns)) := on_pl _
  have sL := ls_sum hns pu
  have sB := bs_sum hns pu
  rw [show fnD [inst C (pF q ns)] = .bool (noneI (wholeI q) ns) from on_pl _]
  refine gs_cons ?_
  repeat infer_instance
  refine ⟨pp, ?_⟩
  rw [eT]
  refine to_ok ?_
  repeat infer_instance
  refine ⟨pp, ?_⟩
  rw [eL]
  refine to_ok ?_
  repeat infer_instance
  refine sum_intsL ?_
  repeat infer_instance
  unfold noneI
  rw [show decide ((lsI ns).sum > 2 * wholeI q) = decide (2 * wholeI q < (lsI ns).sum) from rfl]
  cases decide (2 * wholeI q < (lsI ns).sum)
  · rw [if_neg (by decide), Bool.false_or]
    repeat infer_instance
    refine ⟨pp, ?_⟩
    rw [eB]
    refine to_ok ?_
    repeat infer_instance
    refine sum_intsL ?_
    repeat infer_instance
    exact rfl
  · rw [if_pos rfl, Bool.true_or]
theorem ok_fits_multiples {C : Addr} (FT : Call P w K mg base (L2.CX P w) 3 "_twice" ["poll"] (spF 1 (prePl C) fun ds => .ok (twD ds)))(FL : Call P w K mg base (L2.CX P w) 3 "_leasts" ["poll"] (spF 1 (prePl C) fun ds => .ok (lsD' ds))){f : Addr} {fd : FuncData} (F : Fun K "_fits_multiples" "_fits_multiples" s_fits_multiples f fd) (sm : ∃ o, K.lookup sysModules = some o) (B : Gls mg) :
    FnG P w K mg base (L2.CX P w) 4 f fd ["poll"] (spF 1 (prePl C) fun ds => .ok (fmD ds)) := by
  refine fn_data F sc_fits_multiples sm (by decide) _ _ fun cdv A outer s H E Bs ds hl hp c ex => ?_
  have pp : prePl C ds := hp
  obtain ⟨q, ns, rfl, hq, hns⟩ := hp
  obtain ⟨pu, q0, q1⟩ := place_u hq
  have nd := sc_fits_multiples.nd
  have h6 := hns.six
  have eT : twD [inst C (pF q ns)] = .int (2 * wholeI q) := on_pl _
  have eL : lsD' [inst C (pF q ns)] = .list (intsD (lsI ns)) := on_pl _
  have eB : bsD [inst C (pF q ns)] = .list (intsD (bsI ns)) := on_pl _
  have sL := ls_sum hns pu
  have sB := bs_sum hns pu
  rw [show fmD [inst C (pF q ns)] = .bool (decide ((lsI ns).sum = 2 * wholeI q)) from on_pl _]
  refine gs_cons ?_
  repeat infer_instance
  refine ⟨pp, ?_⟩
  rw [eL]
  refine to_ok ?_
  repeat infer_instance
  refine sum_intsL ?_
  repeat infer_instance
  refine ⟨pp, ?_⟩
  rw [eT]
  refine to_ok ?_
  repeat infer_instance
  rw [eqv_int]
/-- the number of which such shares fit all multiples -/
def gcdI (t : Int) (ps : List Int) : Int := ps.foldl (fun c p => ((Nat.gcd c.natAbs p.natAbs : Nat) : Int)) t
def muD : List PyData → PyData := onPl fun u ns => .int ((2 * u) / gcdI (2 * u) (lsI ns))
theorem gcdI_pos : ∀ {t : Int} {ps : List Int}, 1 ≤ t → 1 ≤ gcdI t ps ∧ gcdI t ps ≤ t
  | t, [], h => ⟨h, Int.le_refl _⟩
  | t, p :: ps, h => by
    have a : 0 < Nat.gcd t.natAbs p.natAbs := Nat.gcd_pos_of_pos_left _ (by omega)
    have b : Nat.gcd t.natAbs p.natAbs ≤ t.natAbs := Nat.gcd_le_left _ (by omega)
    have := gcdI_pos (t := ((Nat.gcd t.natAbs p.natAbs : Nat) : Int)) (ps := ps) (by omega)
    show 1 ≤ gcdI ((Nat.gcd t.natAbs p.natAbs : Nat) : Int) ps ∧ gcdI ((Nat.gcd t.natAbs p.natAbs : Nat) : Int) ps ≤ t
    omega
theorem gcdI_take {t : Int} {ps : List Int} {i : Nat} (h : i < ps.length) : gcdI t (ps.take (i + 1)) = ((Nat.gcd (gcdI t (ps.take i)).natAbs ps[i].natAbs : Nat) : Int) := by
  unfold gcdI
  rw [List.take_succ_eq_append_getElem h, List.foldl_append] <;> rfl
theorem ok_multiplied {C : Addr} (gG : mg "gcd" = some (.builtin "math.gcd")) (FT : Call P w K mg base (L2.CX P w) 3 "_twice" ["poll"] (spF 1 (prePl C) fun ds => .ok (twD ds)))(FL : Call P w K mg base (L2.CX P w) 3 "_leasts" ["poll"] (spF 1 (prePl C) fun ds => .ok (lsD' ds))){f : Addr} {fd : FuncData} (F : Fun K "_multiplied" "_multiplied" s_multiplied f fd) (sm : ∃ o, K.lookup sysModules = some o) (B : Gls mg) :
    FnG P w K mg base (L2.CX P w) 4 f fd ["poll"] (spF 1 (prePl C) fun ds => .ok (muD ds)) := by
  refine fn_data F sc_multiplied sm (by decide) _ _ fun cdv A outer s H E Bs ds hl hp c ex => ?_
  have pp : prePl C ds := hp
  obtain ⟨q, ns, rfl, hq, hns⟩ := hp
  obtain ⟨pu, q0, q1⟩ := place_u hq
  have nd := sc_multiplied.nd
  have h6 := hns.six
  have eT : twD [inst C (pF q ns)] = .int (2 * wholeI q) := on_pl _
  have eL : lsD' [inst C (pF q ns)] = .list (intsD (lsI ns)) := on_pl _
  have eB : bsD [inst C (pF q ns)] = .list (intsD (bsI ns)) := on_pl _
  have sL := ls_sum hns pu
  have sB := bs_sum hns pu
  rw [show muD [inst C (pF q ns)] = .int ((2 * wholeI q) / gcdI (2 * wholeI q) (lsI ns)) from on_pl _]
  refine gs_cons ?_
  repeat infer_instance
  refine ⟨pp, ?_⟩
  rw [eT]
  refine to_ok ?_
  repeat infer_instance
  refine ⟨pp, ?_⟩
  rw [eL]
  refine to_ok ?_
  repeat infer_instance
  have lo := ls_ok hns
  have l6 : (lsI ns).length ≤ 6 := Nat.le_trans (ls_len ns) h6
  generalize lsI ns = L at lo l6 ⊢
  refine ⟨fun i Γ => ∃ s3 : Sl, Γ = [.d (inst C (pF q ns)), .d (.int (2 * wholeI q)), .d (.int (gcdI (2 * wholeI q) (L.take i))), s3], ⟨_, rfl⟩, fun _ _ _ _ => trivial, ?_, ?_⟩
  · rintro i Γ hi ⟨s3, rfl⟩
    have hi : i < L.length := by rw [List.length_map] at hi; exact hi
    rw [nth_int hi]
    repeat infer_instance
    repeat (with_reducible refine gs_nil ?_)
    exact ⟨_, by rw [gcdI_take hi] <;> rfl⟩
  rintro Γ ⟨s3, rfl⟩
  rw [List.length_map, List.take_length]
  repeat infer_instance
  obtain ⟨g1, g2⟩ := gcdI_pos (t := 2 * wholeI q) (ps := L) (by omega)
  generalize gcdI (2 * wholeI q) L = g at g1 g2 ⊢
  refine fdiv_i (by omega) (Nat.lt_of_le_of_lt (show g.natAbs ≤ 2000 by omega) (by decide)) ?_
  exact rfl
def lastA (t : Int) (ps : List Int) : Int := (((ps.length : Int) - 1) * t - ps.length) / (t - ps.sum)
def lastB (t : Int) (bs : List Int) : Int := (((bs.length : Int) - 1) * t) / (bs.sum - t)
def gapI (u : Int) (ns : List Int) : Int := (if lastA (2 * u) (lsI ns) < lastB (2 * u) (bsI ns) then lastB (2 * u) (bsI ns) else lastA (2 * u) (lsI ns)) + 1
def gapD : List PyData → PyData := onPl fun u ns => .int (gapI u ns)
def preGap (C : Addr) (ds : List PyData) : Prop := ∃ (q : Int) (ns : List Int), ds = [inst C (pF q ns)] ∧ place q ∧ Shs (wholeI q) ns ∧ (lsI ns).sum < 2 * wholeI q ∧ 2 * wholeI q < (bsI ns).sum
theorem int0_sub {i j : Int} {k : PyData → Prop} (h : k (.int (i - j))) : Int0 (fun x1 x2 => x1 - x2) (.int i) (.int j) k := h
theorem ok_behind_gaps {C : Addr} (FT : Call P w K mg base (L2.CX P w) 3 "_twice" ["poll"] (spF 1 (prePl C) fun ds => .ok (twD ds)))(FL : Call P w K mg base (L2.CX P w) 3 "_leasts" ["poll"] (spF 1 (prePl C) fun ds => .ok (lsD' ds)))(FB : Call P w K mg base (L2.CX P w) 3 "_behinds" ["poll"] (spF 1 (prePl C) fun ds => .ok (bsD ds))){f : Addr} {fd : FuncData} (F : Fun K "_behind_gaps" "_behind_gaps" s_behind_gaps f fd) (sm : ∃ o, K.lookup sysModules = some o) (B : Gls mg) :
    FnG P w K mg base (L2.CX P w) 4 f fd ["poll"] (spF 1 (preGap C) fun ds => .ok (gapD ds)) := by
  refine fn_data F sc_behind_gaps sm (by decide) _ _ fun cdv A outer s H E Bs ds hl hp c ex => ?_
  obtain ⟨q, ns, rfl, hq, hns, r0, r1⟩ := hp
  have pp : prePl C [inst C (pF q ns)] := ⟨q, ns, rfl, hq, hns⟩
  obtain ⟨pu, q0, q1⟩ := place_u hq
  have nd := sc_behind_gaps.nd
  have h6 := hns.six
  have eT : twD [inst C (pF q ns)] = .int (2 * wholeI q) := on_pl _
  have eL : lsD' [inst C (pF q ns)] = .list (intsD (lsI ns)) := on_pl _
  have eB : bsD [inst C (pF q ns)] = .list (intsD (bsI ns)) := on_pl _
  have sL := ls_sum hns pu
  have sB := bs_sum hns pu
  rw [show gapD [inst C (pF q ns)] = .int (gapI (wholeI q) ns) from on_pl _]
  refine gs_cons ?_
  repeat infer_instance
  refine ⟨pp, ?_⟩
  rw [eT]
  refine to_ok ?_
  repeat infer_instance
  refine ⟨pp, ?_⟩
  rw [eL]
  refine to_ok ?_
  repeat infer_instance
  refine ⟨pp, ?_⟩
  rw [eB]
  refine to_ok ?_
  repeat infer_instance
  have lb := ls_len ns
  have lB : (bsI ns).length = ns.length := List.length_map _
  rw [show (intsD (lsI ns)).length = (lsI ns).length from List.length_map _]
  unfold gapI lastA lastB
  refine sum_intsL ?_
  generalize lsI ns = L at lb sL r0 ⊢
  generalize bsI ns = M at lB sB r1 ⊢
  refine int0_sub ?_
  refine fdiv_i (by omega) (Nat.lt_of_le_of_lt (show (2 * wholeI q - L.sum).natAbs ≤ 30000 by omega) (by decide)) ?_
  repeat infer_instance
  refine sum_intsL ?_
  repeat infer_instance
  rw [show (intsD M).length = M.length from List.length_map _]
end
end K69
namespace K69
open PySem PySem.Spec PyProof.Rows L2 Tc Px Py
section
variable {P : Program} {w : World} {K : PySem.W.Frag} {mg : Str → Option Value} {base : Heap}
theorem sc_adds_up : FnScope ["poll", "people", "twice", "behinds"] ["poll", "people"] (defScope s_adds_up) := ⟨rfl, rfl, rfl, by decide +kernel, rfl, by decide +kernel, by decide +kernel⟩
def addB (u n : Int) (ns : List Int) : Bool := decide ((upL (2 * u) n (lsI ns)).sum ≤ n) && decide (n + ns.length ≤ (upL (2 * u) n (bsI ns)).sum)
def preAd (C : Addr) (ds : List PyData) : Prop := ∃ (q n : Int) (ns : List Int), ds = [inst C (pF q ns), .int n] ∧ place q ∧ Shs (wholeI q) ns ∧ 1 ≤ n ∧ n ≤ 100000
def adD : List PyData → PyData
  | [d, .int n] => onPl (fun u ns => .bool (addB u n ns)) [d]
  | _ => .none
theorem up_is (ps : List Int) (n t : Int) : upD [.list (intsD ps), .int n, .int t] = .list (intsD (upL t n ps)) := by
  show PyData.list (intsD (upL t n (asIs (intsD ps)))) = _
  rw [asIs_ints]
theorem ok_adds_up {C : Addr} (FT : Call P w K mg base (L2.CX P w) 3 "_twice" ["poll"] (spF 1 (prePl C) fun ds => .ok (twD ds)))(FL : Call P w K mg base (L2.CX P w) 3 "_leasts" ["poll"] (spF 1 (prePl C) fun ds => .ok (lsD' ds)))(FB : Call P w K mg base (L2.CX P w) 3 "_behinds" ["poll"] (spF 1 (prePl C) fun ds => .ok (bsD ds)))(FR : Call P w K mg base (L2.CX P w) 1 "_rounded_up" ["parts", "people", "twice"] (spF 3 preUp fun ds => .ok (upD ds))){f : Addr} {fd : FuncData} (F : Fun K "_adds_up" "_adds_up" s_adds_up f fd) (sm : ∃ o, K.lookup sysModules = some o) (B : Gls mg) :
    FnG P w K mg base (L2.CX P w) 4 f fd ["poll", "people"] (spF 2 (preAd C) fun ds => .ok (adD ds)) := by
  refine fn_data F sc_adds_up sm (by decide) _ _ fun cdv A outer s H E Bs ds hl hp c ex => ?_
  obtain ⟨q, n, ns, rfl, hq, hns, n1, n2⟩ := hp
  have pp : prePl C [inst C (pF q ns)] := ⟨q, ns, rfl, hq, hns⟩
  obtain ⟨pu, q0, q1⟩ := place_u hq
  have nd := sc_adds_up.nd
  have h6 := hns.six
  have eT : twD [inst C (pF q ns)] = .int (2 * wholeI q) := on_pl _
  have eL : lsD' [inst C (pF q ns)] = .list (intsD (lsI ns)) := on_pl _
  have eB : bsD [inst C (pF q ns)] = .list (intsD (bsI ns)) := on_pl _
  have sL := ls_sum hns pu
  have sB := bs_sum hns pu
  rw [show adD [inst C (pF q ns), .int n] = .bool (addB (wholeI q) n ns) from by
    show onPl (fun u ns => .bool (addB u n ns)) [inst C (pF q ns)] = _
    exact on_pl _]
  have lb := ls_len ns
  have lB : (bsI ns).length = ns.length := List.length_map _
  have oL := ls_ok hns
  have oB := bs_ok hns
  refine gs_cons ?_
  repeat infer_instance
  refine ⟨pp, ?_⟩
  rw [eT]
  refine to_ok ?_
  repeat infer_instance
  refine ⟨pp, ?_⟩
  rw [eB]
  refine to_ok ?_
  repeat infer_instance
  refine ⟨pp, ?_⟩
  rw [eL]
  refine to_ok ?_
  repeat infer_instance
  refine ⟨⟨lsI ns, n, _, rfl, fun p hp => by have := oL p hp; omega, by omega, by omega, n2, by omega⟩, ?_⟩
  rw [up_is]
  refine to_ok ?_
  refine sum_intsL ?_
  repeat infer_instance
  unfold addB
  by_cases hc : (upL (2 * wholeI q) n (lsI ns)).sum ≤ n
  · rw [decide_eq_true hc, decide_eq_false (show ¬ n < (upL (2 * wholeI q) n (lsI ns)).sum by omega), if_neg (by decide), Bool.true_and]
    repeat infer_instance
    repeat (with_reducible refine gs_nil ?_)
    show Gs _ _ _ _ _
    refine gs_cons ?_
    repeat infer_instance
    refine ⟨⟨bsI ns, n, _, rfl, fun p hp => by have := oB p hp; omega, by omega, by omega, n2, by omega⟩, ?_⟩
    rw [up_is]
    refine to_ok ?_
    refine sum_intsL ?_
    repeat infer_instance
    rw [show (intsD (bsI ns)).length = ns.length from (List.length_map _).trans lB]
  · rw [decide_eq_false hc, decide_eq_true (show n < (upL (2 * wholeI q) n (lsI ns)).sum by omega), if_pos rfl, Bool.false_and]
    repeat infer_instance
    exact rfl
end
end K69
namespace K69
open PySem PySem.Spec PyProof.Rows L2 Tc Px Py
local macro_rules | `(tactic| fail "x15GF0") => `(tactic| first
  | ((with_reducible show GF _ _ (Expr.Call (Expr.Name "sorted" _) [Expr.ListComp _ _ _ _] _ _) _ _); (with_reducible apply gf_sortI); (eq_refl); (eq_refl); (exact Gls.sorted (by assumption)); rotate_left; (exact star_cons rfl))
  )
local macro_rules | `(tactic| infer_instance) => `(tactic| first
  | ((with_reducible show GF _ _ (Expr.Call (Expr.Name "sorted" _) [Expr.ListComp _ _ _ _] _ _) _ _); fail "x15GF0")
  | ((with_reducible show GA _ _ (Expr.Starred (Expr.BinOp (Expr.List _ _) Operator.Mult _ _) _ :: _) _ _); (with_reducible apply ga_star true); rotate_left; (eq_refl))
  | ((with_reducible show GA _ _ (Expr.Starred (Expr.Name _ _) _ :: _) _ _); (with_reducible apply ga_star true); rotate_left; (eq_refl))
  | ((with_reducible show GQ _ _ true (Expr.BinOp (Expr.List _ _) Operator.Mult _ _) _ _); (with_reducible refine gq_ofF ?_); (with_reducible refine gf_repZ ?_))
  | ((with_reducible show GQ _ _ true (Expr.Name _ _) _ _); (with_reducible refine gq_of ?_))
  )
section
variable {P : Program} {w : World} {K : PySem.W.Frag} {mg : Str → Option Value} {base : Heap}
theorem sc_passing : FnScope ["parts", "twice", "over", "numbers", "first", "behind", "before", "turns", "at", "part", "begun", "count"] ["parts", "twice", "over", "numbers"] (defScope s_passing) := ⟨rfl, rfl, rfl, by decide +kernel, rfl, by decide +kernel, by decide +kernel⟩
def prePs (ds : List PyData) : Prop := ∃ (ps : List Int) (t over f b : Int), ds = [.list (intsD ps), .int t, .int over, .tuple [.int f, .int b]] ∧ (∀ p ∈ ps, 1 ≤ p ∧ p ≤ 3000) ∧ ps.length ≤ 6 ∧ (t = 200 ∨ t = 2000) ∧ 0 ≤ over ∧ over ≤ 6 ∧ 1 ≤ f ∧ f ≤ b ∧ b ≤ 20000
def srtI (l : List Int) : List Int := l.mergeSort fun a b => decide (a ≤ b)
def passI (t over f b : Int) (ps : List Int) : List Int := Pm.passL (srtI (Pm.turns t f (b - 1) ps)) (f + over - Pm.tot t (f - 1) ps) f b
def psD : List PyData → PyData
  | [.list xs, .int t, .int over, .tuple [.int f, .int b]] => .list (intsD (passI t over f b (asIs xs)))
  | _ => .none
theorem up_bd {t p n : Int} (ht : t = 200 ∨ t = 2000) (hp : 1 ≤ p ∧ p ≤ 3000) (h0 : 0 ≤ n) (h1 : n ≤ 20000) : 0 ≤ Pm.up t n p ∧ Pm.up t n p ≤ 300000 := by
  have a : 0 ≤ p * n := Int.mul_nonneg (by omega) h0
  have b : p * n ≤ 3000 * 20000 := Int.mul_le_mul hp.2 h1 h0 (by decide)
  refine ⟨?_, Pm.up_le (by omega) (by omega)⟩
  have := (Pm.up_spec (t := t) (by omega) n p).1
  have : 0 ≤ Pm.up t n p * t := by omega
  exact Int.nonneg_of_mul_nonneg_left this (by omega)
theorem turn_len {t p f b : Int} (ht : t = 200 ∨ t = 2000) (hp : 1 ≤ p ∧ p ≤ 3000) (f1 : 1 ≤ f) (fb : f ≤ b) (b1 : b ≤ 20000) : (Pm.turn1 t (b - 1) p (Pm.up t (f - 1) p)).length ≤ 400000 := by
  unfold Pm.turn1
  rw [List.length_map, List.length_range]
  have := up_bd ht hp (show 0 ≤ f - 1 by omega) (show f - 1 ≤ 20000 by omega)
  have := up_bd ht hp (show 0 ≤ b - 1 by omega) (show b - 1 ≤ 20000 by omega)
  omega
theorem gd0 {l : List Int} {i : Nat} (h : i < l.length) : l.getD i 0 = l[i] := by
  rw [List.getD_eq_getElem?_getD, List.getElem?_eq_getElem h] <;> rfl
theorem flat_get {l : List Int} (g : Int → List Int) : (List.range l.length).flatMap (fun i => intsD (g (l.getD i 0))) = intsD (l.flatMap g) := by
  have e : (List.range l.length).map (fun i => l.getD i 0) = l := by
    refine List.ext_getElem (by rw [List.length_map, List.length_range]) fun i h1 h2 => ?_
    rw [List.getElem_map, List.getElem_range, gd0 h2]
  have q : (List.range l.length).flatMap (fun i => intsD (g (l.getD i 0))) = ((List.range l.length).map fun i => l.getD i 0).flatMap fun p => intsD (g p) := by
    rw [List.flatMap_map]
  rw [q, e]
  unfold intsD
  rw [List.map_flatMap]
theorem tot_bd {t n : Int} {ps : List Int} (ht : t = 200 ∨ t = 2000) (hps : ∀ p ∈ ps, 1 ≤ p ∧ p ≤ 3000) (h6 : ps.length ≤ 6) (h0 : 0 ≤ n) (h1 : n ≤ 20000) : 0 ≤ Pm.tot t n ps ∧ Pm.tot t n ps ≤ 1800000 := by
  have a := sum_le (l := upL t n ps) (b := 300000) fun x hx => by
    obtain ⟨p, hp, rfl⟩ := List.mem_map.mp hx
    exact up_bd ht (hps p hp) h0 h1
  have b : (upL t n ps).length = ps.length := List.length_map _
  have : ((upL t n ps).length : Int) * 300000 ≤ 6 * 300000 := Int.mul_le_mul_of_nonneg_right (by omega) (by decide)
  show 0 ≤ (upL t n ps).sum ∧ (upL t n ps).sum ≤ 1800000
  omega
theorem turns_len {t f b : Int} {ps : List Int} (ht : t = 200 ∨ t = 2000) (hps : ∀ p ∈ ps, 1 ≤ p ∧ p ≤ 3000) (h6 : ps.length ≤ 6) (f1 : 1 ≤ f) (fb : f ≤ b) (b1 : b ≤ 20000) : (Pm.turns t f (b - 1) ps).length ≤ 2400000 := by
  have : ∀ l : List Int, (∀ p ∈ l, 1 ≤ p ∧ p ≤ 3000) → (Pm.turns t f (b - 1) l).length ≤ l.length * 400000 := fun l => by
    induction l with
    | nil => exact fun _ => by show 0 ≤ _; omega
    | cons p l ih =>
      intro h
      have a := ih fun x hx => h x (.tail _ hx)
      have c := turn_len ht (h p (.head _)) f1 fb b1
      rw [show Pm.turns t f (b - 1) (p :: l) = Pm.turn1 t (b - 1) p (Pm.up t (f - 1) p) ++ Pm.turns t f (b - 1) l from rfl, List.length_append, List.length_cons, Nat.add_mul]
      omega
  have := this ps hps
  have : ps.length * 400000 ≤ 6 * 400000 := Nat.mul_le_mul_right _ h6
  omega
theorem srt_is {l ms : List Int} (pm : ms.Perm l) (so : ms.Pairwise (· ≤ ·)) : srtI l = ms := by
  have p1 : (srtI l).Perm l := List.mergeSort_perm l _
  have s1 : (srtI l).Pairwise fun a b => decide (a ≤ b) = true := List.pairwise_mergeSort (fun a b c h1 h2 => by simp at *; omega) (fun a b => by simp; omega) l
  exact List.Perm.eq_of_pairwise (le := fun a b : Int => a ≤ b) (fun a b _ _ h1 h2 => by omega) (s1.imp fun h => of_decide_eq_true h) so (p1.trans pm.symm)
theorem cut_fromI {ds : List PyData} {l : Int} (h : 0 ≤ l) : Px.cutD ds (some l) none = ds.drop l.toNat := by
  unfold Px.cutD
  have e2 : HT.sIx ds.length ds.length none = ds.length := rfl
  rw [e2]
  by_cases c : l.toNat ≤ ds.length
  · have e1 : HT.sIx ds.length 0 (some l) = l.toNat := by
      show (if l < 0 then (l + ds.length).toNat else min l.toNat ds.length) = _
      rw [if_neg (by omega)]
      omega
    rw [e1, List.take_of_length_le (by rw [List.length_drop]; omega)]
  · have e1 : HT.sIx ds.length 0 (some l) = ds.length := by
      show (if l < 0 then (l + ds.length).toNat else min l.toNat ds.length) = _
      rw [if_neg (by omega)]
      omega
    rw [e1, List.drop_eq_nil_of_le (Nat.le_refl _), List.take_nil, List.drop_eq_nil_of_le (by omega)]
theorem ok_passing (FR : Call P w K mg base (L2.CX P w) 1 "_rounded_up" ["parts", "people", "twice"] (spF 3 preUp fun ds => .ok (upD ds))){f : Addr} {fd : FuncData} (F : Fun K "_passing" "_passing" s_passing f fd) (sm : ∃ o, K.lookup sysModules = some o) (B : Gls mg) :
    FnG P w K mg base (L2.CX P w) 2 f fd ["parts", "twice", "over", "numbers"] (spF 4 prePs fun ds => .ok (psD ds)) := by
  refine fn_data F sc_passing sm (by decide) _ _ fun cdv A outer s H E Bs ds hl hp c ex => ?_
  obtain ⟨ps, t, over, f, b, rfl, hps, h6, ht, o0, o1, f1, fb, b1⟩ := hp
  have nd := sc_passing.nd
  rw [show psD [.list (intsD ps), .int t, .int over, .tuple [.int f, .int b]] = .list (intsD (passI t over f b ps)) from by
    show PyData.list (intsD (passI t over f b (asIs (intsD ps)))) = _
    rw [asIs_ints]]
  refine gs_cons ?_
  repeat infer_instance
  refine ⟨⟨ps, f - 1, t, rfl, fun p hp => by have := hps p hp; omega, h6, by omega, by omega, ht⟩, ?_⟩
  rw [up_is]
  refine to_ok ?_
  repeat infer_instance
  show GF Bs _ _ [.d (.list (intsD ps)), .d (.int t), .d (.int over), .d (.tuple [.int f, .int b]), .d (.int f), .d (.int b), .d (.list (intsD (upL t (f - 1) ps))), .no, .no, .no, .no, .no] _
  refine gf_lk2 (own := [("part", 9), ("begun", 10), ("count", 11)]) (vs1 := [11]) rfl nd rfl rfl rfl rfl (fun _ => rfl) (fun _ _ _ _ _ _ => rfl) ?_
  ((with_reducible apply gi_zip true true); (eq_refl); (eq_refl); (exact Gls.zip (by assumption)); (eq_refl); (eq_refl); (eq_refl))
  repeat infer_instance
  have lU : (upL t (f - 1) ps).length = ps.length := List.length_map _
  have t0 : 0 < t := by omega
  rw [show min (intsD ps).length (intsD (upL t (f - 1) ps)).length = ps.length from by rw [List.length_map, List.length_map, lU, Nat.min_self]]
  refine ⟨⟨trivial, trivial⟩, fun i => intsD (Pm.turn1 t (b - 1) (ps.getD i 0) (Pm.up t (f - 1) (ps.getD i 0))), 400000, fun i hi => ?_, Nat.le_trans (Nat.mul_le_mul_right 400000 h6) (by decide), fun i hi B' => ?_, ?_⟩
  · show (intsD (Pm.turn1 t (b - 1) (ps.getD i 0) (Pm.up t (f - 1) (ps.getD i 0)))).length ≤ 400000
    rw [gd0 hi, List.length_map]
    exact turn_len ht (hps _ (List.getElem_mem hi)) f1 fb b1
  · have ho := hps _ (List.getElem_mem hi)
    have eN := nth_int hi
    have eU : nth (intsD (upL t (f - 1) ps)) i = .int (Pm.up t (f - 1) ps[i]) := by
      rw [nth_int (by rw [lU]; exact hi)]
      unfold upL
      rw [List.getElem_map]
    show Blk _ _ fun Y => GC _ _ _ _ (.tuple [nth (intsD ps) i, nth (intsD (upL t (f - 1) ps)) i]) _ fun Γ2 => Blk _ _ fun Y => GI _ _ _ _ _ fun n2 f2 keep2 Γ3 => _ ∧ _ ∧ ∃ F : Nat → PyData, intsD (Pm.turn1 t (b - 1) (ps.getD i 0) (Pm.up t (f - 1) (ps.getD i 0))) = _ ∧ _
    rw [gd0 hi]
    generalize ps[i] = v at eN eU ho
    rw [eN, eU]
    obtain ⟨w0, w1⟩ := up_bd ht ho (show 0 ≤ f - 1 by omega) (show f - 1 ≤ 20000 by omega)
    obtain ⟨w2, w3⟩ := up_bd ht ho (show 0 ≤ b - 1 by omega) (show b - 1 ≤ 20000 by omega)
    repeat infer_instance
    rw [show -(-v * (b - 1) / t) = Pm.up t (b - 1) v from rfl]
    generalize Pm.up t (f - 1) v = U at w0 w1 ⊢
    generalize hE : Pm.up t (b - 1) v = V at w2 w3 ⊢
    refine ⟨⟨by omega, by omega, by omega, by omega⟩, trivial, rfl, fun j => .int ((U + (j : Int)) * t / v + 1), ?_, fun j hj B'' => ?_⟩
    · show intsD _ = List.map (fun j : Nat => PyData.int ((U + (j : Int)) * t / v + 1)) (List.range (V - U).toNat)
      unfold Pm.turn1 intsD
      rw [hE, List.map_map] <;> rfl
    · have hj : j < (V - U).toNat := hj
      have hc : 0 ≤ U + (j : Int) ∧ U + (j : Int) ≤ 300000 := by omega
      generalize U + (j : Int) = cc at hc ⊢
      repeat infer_instance
  rw [flat_get fun p => Pm.turn1 t (b - 1) p (Pm.up t (f - 1) p)]
  refine ⟨Pm.turns t f (b - 1) ps, rfl, fun ms pm so => ?_⟩
  refine ⟨rfl, ?_⟩
  show Gs Bs (cxOf (L2.CX P w) P w K mg base ["parts", "twice", "over", "numbers", "first", "behind", "before", "turns", "at", "part", "begun", "count"] "_passing" (defScope s_passing) _ cdv A outer s H E) _ [.d (.list (intsD ps)), .d (.int t), .d (.int over), .d (.tuple [.int f, .int b]), .d (.int f), .d (.int b), .d (.list (intsD (upL t (f - 1) ps))), .d (.list (intsD ms)), .no, .no, .no, .no] _
  refine gs_cons ?_
  repeat infer_instance
  refine sum_intsL ?_
  repeat infer_instance
  rw [show (upL t (f - 1) ps).sum = Pm.tot t (f - 1) ps from rfl]
  have ab := tot_bd (ps := ps) ht hps h6 (show 0 ≤ f - 1 by omega) (show f - 1 ≤ 20000 by omega)
  have ml := turns_len (ps := ps) ht hps h6 f1 fb b1
  rw [← pm.length_eq] at ml
  generalize hA : f + over - Pm.tot t (f - 1) ps = A
  repeat infer_instance
  refine ⟨by omega, Nat.le_trans (show 1 * (-A).toNat ≤ 3000000 by omega) (by decide), ?_⟩
  rw [rep_ints]
  show GA _ _ _ _ _
  repeat infer_instance
  refine ⟨by omega, Nat.le_trans (show 1 * (A + b - f).toNat ≤ 3000000 by omega) (by decide), ?_⟩
  rw [rep_ints]
  show GA _ _ _ _ _
  repeat infer_instance
  have big : ((List.replicate (-A).toNat (PyData.int 0) ++ (intsD ms ++ (List.replicate (A + b - f).toNat (PyData.int b) ++ [])))).length ≤ 9000000 := by
    rw [List.length_append, List.length_append, List.length_append, List.length_replicate, List.length_replicate, List.length_map, List.length_nil]
    omega
  refine ⟨Nat.le_trans big (by decide), ?_⟩
  repeat infer_instance
  have es : srtI (Pm.turns t f (b - 1) ps) = ms := srt_is pm so
  have eL : intsD (passI t over f b ps) = Px.cutD (List.replicate (-A).toNat (PyData.int 0) ++ (intsD ms ++ (List.replicate (A + b - f).toNat (PyData.int b) ++ []))) (some (if A > 0 then A else 0)) none := by
    rw [cut_fromI (by split <;> omega)]
    unfold passI Pm.passL
    rw [hA, es, show (if A > 0 then A else 0).toNat = (max 0 A).toNat from by split <;> omega]
    unfold intsD
    rw [List.map_drop, List.map_append, List.map_append, List.map_replicate, List.map_replicate, List.append_nil, List.append_assoc]
  rw [← eL]
end
end K69
namespace K69
open PySem PySem.Spec PyProof.Rows L2 Tc Px Py
/-! numbers: what _fitting, _adds_up and _count_stretches tell is the same -/
theorem tot_bs (t n : Int) (ns : List Int) : Pm.tot t n (bsI ns) = Pm.sm (Pm.hi t n) ns + ns.length := by
  have e := Pm.sm_sub1 (fun s => Pm.up t n (2 * s + 1)) ns
  have q : Pm.tot t n (bsI ns) = Pm.sm (fun s => Pm.up t n (2 * s + 1)) ns := by
    unfold Pm.tot Pm.sm bsI
    rw [List.map_map] <;> rfl
  have h : Pm.sm (Pm.hi t n) ns = Pm.sm (fun s => Pm.up t n (2 * s + 1) - 1) ns := rfl
  omega
theorem tot_ls (t n : Int) : ∀ ns : List Int, Pm.tot t n (lsI ns) = Pm.sm (Pm.lo t n) ns
  | [] => rfl
  | s :: ns => by
    have ih := tot_ls t n ns
    rw [Pm.sm_cons, ← ih]
    unfold lsI Pm.lo
    by_cases c : 0 < s
    · rw [List.filter_cons_of_pos (by simpa using c), List.map_cons, if_pos c]
      show Pm.sm _ _ = _
      rw [Pm.sm_cons] <;> rfl
    · rw [List.filter_cons_of_neg (by simpa using c), if_neg c, Int.zero_add]
theorem add_is {u n : Int} {ns : List Int} : addB u n ns = true ↔ Pm.Adds u n ns := by
  unfold addB Pm.Adds
  rw [Bool.and_eq_true, decide_eq_true_eq, decide_eq_true_eq]
  rw [show (upL (2 * u) n (lsI ns)).sum = Pm.tot (2 * u) n (lsI ns) from rfl, show (upL (2 * u) n (bsI ns)).sum = Pm.tot (2 * u) n (bsI ns) from rfl, tot_ls, tot_bs]
  exact ⟨fun h => ⟨h.1, by omega⟩, fun h => ⟨h.1, by omega⟩⟩
/-- the two lists of _fitting at one number -/
theorem fit_at {u f b : Int} {ns : List Int} (h : Shs u ns) (hu : 0 < u) (f1 : 1 ≤ f) {i : Nat} (hi : f + i < b) :
    ∃ lo hi, (passI (2 * u) ((bsI ns).length - 1) f b (bsI ns))[i]? = some lo ∧ (passI (2 * u) 0 f b (lsI ns))[i]? = some hi ∧ ((decide (lo ≤ f + i) && decide (f + i < hi)) = addB u (f + i) ns) := by
  have mp : ∀ l : List Int, (srtI l).Perm l ∧ (srtI l).Pairwise (· ≤ ·) := fun l =>
    ⟨List.mergeSort_perm l _, (List.pairwise_mergeSort (le := fun a b : Int => decide (a ≤ b)) (fun a b c h1 h2 => by simp at *; omega) (fun a b => by simp; omega) l).imp fun h => of_decide_eq_true h⟩
  obtain ⟨lo, e1, h1⟩ := Pm.pass_at (t := 2 * u) (f := f) (b := b) (over := (bsI ns).length - 1) (ps := bsI ns) (by omega) (fun p hp => by have := bs_ok h p hp; omega) f1 (mp _).1 (mp _).2 hi
  obtain ⟨hi', e2, h2⟩ := Pm.pass_at (t := 2 * u) (f := f) (b := b) (over := 0) (ps := lsI ns) (by omega) (fun p hp => by have := ls_ok h p hp; omega) f1 (mp _).1 (mp _).2 hi
  refine ⟨lo, hi', e1, e2, ?_⟩
  have lB : (bsI ns).length = ns.length := List.length_map _
  unfold addB
  rw [show (upL (2 * u) (f + i) (lsI ns)).sum = Pm.tot (2 * u) (f + i) (lsI ns) from rfl, show (upL (2 * u) (f + i) (bsI ns)).sum = Pm.tot (2 * u) (f + i) (bsI ns) from rfl, Bool.and_comm]
  congr 1
  · exact decide_eq_decide.mpr ⟨fun z => by omega, fun z => by omega⟩
  · exact decide_eq_decide.mpr ⟨fun z => by omega, fun z => by omega⟩
theorem up_ceil {t n p : Int} (ht : 0 < t) : (p * n + t - 1) / t = Pm.up t n p := by
  have ⟨h1, h2⟩ := Pm.up_spec ht n p
  have a := Int.ediv_mul_le (p * n + t - 1) (Int.ne_of_gt ht)
  have b := Int.lt_ediv_add_one_mul_self (p * n + t - 1) ht
  have c : (p * n + t - 1) / t ≤ Pm.up t n p := Pm.le_of_mul ht (by rw [Int.add_mul, Int.one_mul]; omega)
  have d : Pm.up t n p ≤ (p * n + t - 1) / t := by
    refine Pm.up_le ht ?_
    rw [Int.add_mul, Int.one_mul] at b
    have e : p * n ≤ ((p * n + t - 1) / t) * t := by omega
    exact e
  omega
theorem lo_is {u n s : Int} (hu : 0 < u) (hn : 1 ≤ n) (hs : 0 ≤ s) : loI s n u = Pm.lo (2 * u) n s := by
  unfold loI Pm.lo
  have e : ((2 * s - 1) * n + 2 * u - 1) / (2 * u) = Pm.up (2 * u) n (2 * s - 1) := up_ceil (by omega)
  show (if ((2 * s - 1) * n + 2 * u - 1) / (2 * u) < 0 then 0 else ((2 * s - 1) * n + 2 * u - 1) / (2 * u)) = _
  rw [e]
  by_cases c : 0 < s
  · have := Pm.lo_nn (u := u) (n := n) (s := s) hu hn
    unfold Pm.lo at this
    rw [if_pos c] at this ⊢
    rw [if_neg (by omega)]
  · rw [if_neg c]
    obtain rfl : s = 0 := by omega
    have := Pm.up_le (t := 2 * u) (n := n) (p := 2 * 0 - 1) (m := 0) (by omega) (by omega)
    split <;> omega
theorem hi_is {u n s : Int} (hu : 0 < u) : hiI s n u = min (Pm.hi (2 * u) n s) n := by
  unfold hiI Pm.hi
  have e : ((2 * s + 1) * n + 2 * u - 1) / (2 * u) = Pm.up (2 * u) n (2 * s + 1) := up_ceil (by omega)
  show (if n < ((2 * s + 1) * n + 2 * u - 1) / (2 * u) - 1 then n else ((2 * s + 1) * n + 2 * u - 1) / (2 * u) - 1) = _
  rw [e]
  split <;> omega
theorem fit_is {u n : Int} {ns : List Int} (h : Shs u ns) (hu : 0 < u) (hn : 1 ≤ n) : fitB n (stL n u ns) = addB u n ns := by
  have sh : Pm.Sh u ns := ⟨hu, fun s hs => (h.ok s hs).1, fun s hs => (h.ok s hs).2⟩
  have fa := Pm.fits_adds sh hn
  have e : fitB n (stL n u ns) = true ↔ Pm.Fits u n ns := by
    unfold fitB Pm.Fits stL loS hiS noneB
    rw [Bool.and_eq_true, Bool.and_eq_true, decide_eq_true_eq, decide_eq_true_eq, Bool.not_eq_true', List.any_eq_false, List.map_map, List.map_map]
    have s1 : (ns.map ((fun x : Int × Int => x.1) ∘ fun s => (loI s n u, hiI s n u))).sum = Pm.sm (Pm.lo (2 * u) n) ns := by
      unfold Pm.sm
      congr 1
      exact List.map_congr_left fun s hs => lo_is hu hn (h.ok s hs).1
    have s2 : (ns.map ((fun x : Int × Int => x.2) ∘ fun s => (loI s n u, hiI s n u))).sum = Pm.sm (fun s => min (Pm.hi (2 * u) n s) n) ns := by
      unfold Pm.sm
      congr 1
      exact List.map_congr_left fun s hs => hi_is hu
    rw [s1, s2]
    refine and_congr ⟨fun z s hs => ?_, fun z x hx => ?_⟩ Iff.rfl
    · have := z _ (List.mem_map.mpr ⟨s, hs, rfl⟩)
      rw [← lo_is hu hn (h.ok s hs).1, ← hi_is hu]
      simp at this
      exact this
    · obtain ⟨s, hs, rfl⟩ := List.mem_map.mp hx
      have := z s hs
      rw [← lo_is hu hn (h.ok s hs).1, ← hi_is hu] at this
      simp
      exact this
  have q := e.trans (fa.trans add_is.symm)
  cases h1 : fitB n (stL n u ns) <;> cases h2 : addB u n ns <;> simp [h1, h2] at q ⊢
end K69
namespace K69
open PySem PySem.Spec PyProof.Rows L2 Tc Px Py
/-! numbers: shares that fit multiples only -/
theorem gcd_n {t c p n : Int} (h1 : t ∣ c * n) (h2 : t ∣ p * n) : t ∣ ((Nat.gcd c.natAbs p.natAbs : Nat) : Int) * n := by
  have a : t ∣ ((Int.gcd (c * n) (p * n) : Nat) : Int) := Int.dvd_coe_gcd h1 h2
  rw [Int.gcd_mul_right] at a
  have b : t ∣ ((Nat.gcd c.natAbs p.natAbs : Nat) : Int) * (n.natAbs : Int) := by
    rw [← Int.natCast_mul]
    exact a
  rcases Int.natAbs_eq n with e | e
  · rw [e]
    exact b
  · rw [e, Int.mul_neg]
    exact (Int.dvd_neg).mpr b
theorem gcdI_dvd : ∀ {t : Int} {ps : List Int}, gcdI t ps ∣ t ∧ ∀ p ∈ ps, gcdI t ps ∣ p
  | t, [] => ⟨Int.dvd_refl _, fun _ h => nomatch h⟩
  | t, p :: ps => by
    obtain ⟨a, b⟩ := gcdI_dvd (t := ((Nat.gcd t.natAbs p.natAbs : Nat) : Int)) (ps := ps)
    have c : ((Nat.gcd t.natAbs p.natAbs : Nat) : Int) ∣ t := Int.gcd_dvd_left t p
    have d : ((Nat.gcd t.natAbs p.natAbs : Nat) : Int) ∣ p := Int.gcd_dvd_right t p
    refine ⟨Int.dvd_trans a c, fun x hx => ?_⟩
    rcases List.mem_cons.mp hx with rfl | hx
    · exact Int.dvd_trans a d
    · exact b x hx
theorem gcdI_n {T n : Int} : ∀ {t : Int} {ps : List Int}, T ∣ t * n → (∀ p ∈ ps, T ∣ p * n) → T ∣ gcdI t ps * n
  | t, [], h, _ => h
  | t, p :: ps, h, q => gcdI_n (t := ((Nat.gcd t.natAbs p.natAbs : Nat) : Int)) (ps := ps) (gcd_n h (q p (.head _))) fun x hx => q x (.tail _ hx)
theorem mult_dvd {T n : Int} {ps : List Int} (hT : 1 ≤ T) : (∀ p ∈ ps, T ∣ p * n) ↔ T / gcdI T ps ∣ n := by
  obtain ⟨g1, g2⟩ := gcdI_pos (t := T) (ps := ps) hT
  obtain ⟨d1, d2⟩ := gcdI_dvd (t := T) (ps := ps)
  have eT : gcdI T ps * (T / gcdI T ps) = T := Int.mul_ediv_cancel' d1
  constructor
  · intro h
    obtain ⟨c, hc⟩ := gcdI_n (T := T) (n := n) (t := T) (ps := ps) (Int.dvd_mul_right T n) h
    refine ⟨c, Int.eq_of_mul_eq_mul_left (a := gcdI T ps) (by omega) ?_⟩
    rw [hc, ← Int.mul_assoc, eT]
  · rintro ⟨c, rfl⟩ p hp
    obtain ⟨e, he⟩ := d2 p hp
    refine ⟨e * c, ?_⟩
    rw [he]
    calc gcdI T ps * e * (T / gcdI T ps * c) = (gcdI T ps * (T / gcdI T ps)) * (e * c) := by
          rw [Int.mul_assoc, Int.mul_assoc, Int.mul_left_comm e]
      _ = T * (e * c) := by rw [eT]
theorem ls_pl (ns : List Int) : (lsI ns).sum = Pm.sm Pm.pl ns := by
  induction ns with
  | nil => rfl
  | cons s ns ih =>
    rw [Pm.sm_cons, ← ih]
    unfold lsI Pm.pl
    by_cases c : 0 < s
    · rw [List.filter_cons_of_pos (by simpa using c), List.map_cons, if_pos c, List.sum_cons]
    · rw [List.filter_cons_of_neg (by simpa using c), if_neg c, Int.zero_add]
theorem bs_bl (ns : List Int) : (bsI ns).sum = Pm.sm Pm.bl ns := by
  induction ns with
  | nil => rfl
  | cons s ns ih =>
    rw [Pm.sm_cons, ← ih]
    rfl
theorem ls_ml (ns : List Int) : ((lsI ns).length : Int) = Pm.sm Pm.ml ns := by
  induction ns with
  | nil => rfl
  | cons s ns ih =>
    rw [Pm.sm_cons, ← ih]
    unfold lsI Pm.ml
    by_cases c : 0 < s
    · rw [List.filter_cons_of_pos (by simpa using c), List.map_cons, if_pos c, List.length_cons]
      omega
    · rw [List.filter_cons_of_neg (by simpa using c), if_neg c, Int.zero_add]
/-- what _multiplied tells -/
def mulI (u : Int) (ns : List Int) : Int := (2 * u) / gcdI (2 * u) (lsI ns)
theorem add_mul {u n : Int} {ns : List Int} (h : Shs u ns) (hu : 0 < u) (hn : 1 ≤ n) (e : (lsI ns).sum = 2 * u) : addB u n ns = true ↔ mulI u ns ∣ n := by
  have sh : Pm.Sh u ns := ⟨hu, fun s hs => (h.ok s hs).1, fun s hs => (h.ok s hs).2⟩
  rw [add_is, Pm.adds_mult sh hn (by rw [← ls_pl]; exact e)]
  unfold mulI
  rw [← mult_dvd (by omega)]
  constructor
  · intro q p hp
    obtain ⟨s, hs, rfl⟩ := List.mem_map.mp hp
    obtain ⟨hs, h0⟩ := List.mem_filter.mp hs
    have := q s hs
    unfold Pm.pl at this
    rw [if_pos (of_decide_eq_true h0)] at this
    exact this
  · intro q s hs
    unfold Pm.pl
    by_cases c : 0 < s
    · rw [if_pos c]
      exact q _ (List.mem_map.mpr ⟨s, List.mem_filter.mpr ⟨hs, decide_eq_true c⟩, rfl⟩)
    · rw [if_neg c, Int.zero_mul]
      exact Int.dvd_zero _
/-- from _behind_gaps on all fit -/
theorem gap_fits {u n : Int} {ns : List Int} (h : Shs u ns) (hu : 0 < u) (r0 : (lsI ns).sum < 2 * u) (r1 : 2 * u < (bsI ns).sum) (hn : gapI u ns ≤ n) : addB u n ns = true := by
  rw [add_is]
  have lB : (bsI ns).length = ns.length := List.length_map _
  unfold gapI lastA lastB at hn
  rw [ls_ml, lB] at hn
  rw [ls_pl] at hn r0
  rw [bs_bl] at hn r1
  refine Pm.adds_from hu r0 r1 (x := (Pm.sm Pm.ml ns - 1) * (2 * u) - Pm.sm Pm.ml ns) (y := ((ns.length : Int) - 1) * (2 * u)) (Int.le_refl _) (Int.le_refl _) ?_ ?_
  · split at hn <;> omega
  · split at hn <;> omega
/-- none fits -/
theorem none_fits {u n : Int} {ns : List Int} (h : Shs u ns) (hu : 0 < u) (hn : 1 ≤ n) (e : noneI u ns = true) : addB u n ns = false := by
  have h2 := h.two
  have := Pm.adds_none (u := u) (n := n) (ss := ns) hu hn (by omega) (by
    unfold noneI at e
    rw [Bool.or_eq_true, decide_eq_true_eq, decide_eq_true_eq, ls_pl, bs_bl] at e
    exact e.imp (fun z => z) fun z => z)
  cases q : addB u n ns with
  | false => rfl
  | true => exact absurd (add_is.mp q) this
end K69
namespace K69
open PySem PySem.Spec PyProof.Rows L2 Tc Px Py
/-! numbers: the first one from some on; whether each share has a count -/
def firstI (g : Int → Bool) (p : Int) : Int := p + ((List.range 30000).findIdx fun i : Nat => g (p + i) : Nat)
theorem first_is {g : Int → Bool} {p N : Int} (h0 : p ≤ N) (h1 : N - p < 30000) (hg : g N = true) (hl : ∀ k, p ≤ k → k < N → g k = false) : firstI g p = N := by
  unfold firstI
  have e : (List.range 30000).findIdx (fun i : Nat => g (p + i)) = (N - p).toNat := by
    refine (List.findIdx_eq (by rw [List.length_range]; omega)).mpr ⟨?_, fun j hj => ?_⟩
    · rw [List.getElem_range]
      have : p + (((N - p).toNat : Nat) : Int) = N := by omega
      rw [this]
      exact hg
    · rw [List.getElem_range]
      exact hl _ (by omega) (by omega)
  rw [e]
  omega
/-- whether each of these parts has a count of so many people -/
def haveB (t n : Int) (ps : List Int) : Bool := ps.all fun p => decide (Pm.up t n p < Pm.up t n (p + 2))
theorem have_add {u n : Int} {ns : List Int} (h : Shs u ns) (hu : 0 < u) (hn : 1 ≤ n) (e : addB u n ns = true) : haveB (2 * u) n (lsI ns) = true := by
  have sh : Pm.Sh u ns := ⟨hu, fun s hs => (h.ok s hs).1, fun s hs => (h.ok s hs).2⟩
  have fa := (Pm.fits_adds sh hn).mpr (add_is.mp e)
  refine List.all_eq_true.mpr fun p hp => ?_
  obtain ⟨s, hs, rfl⟩ := List.mem_map.mp hp
  obtain ⟨hs, h0⟩ := List.mem_filter.mp hs
  have h0 := of_decide_eq_true h0
  have := fa.1 s hs
  unfold Pm.lo Pm.hi at this
  rw [if_pos h0] at this
  refine decide_eq_true ?_
  rw [show 2 * s - 1 + 2 = 2 * s + 1 from by omega]
  omega
/-- one step of _with_counts does not pass a number at which the part has a count -/
theorem step_le {t p n N : Int} (ht : 0 < t) (hp : 0 ≤ p) (h : n ≤ N) (e : Pm.up t N p < Pm.up t N (p + 2)) : Pm.up t n p * t / (p + 2) + 1 ≤ N :=
  (Pm.turn_le ht (by omega)).mpr (Int.lt_of_le_of_lt (Pm.up_mono ht hp h) e)
theorem step_has {t p n : Int} (ht : 0 < t) (hp : 0 ≤ p) : Pm.up t n p * t / (p + 2) + 1 ≤ n ↔ Pm.up t n p < Pm.up t n (p + 2) := Pm.turn_le ht (by omega)
/-- with more people the least counts never add up to less -/
theorem skip_le {t n N : Int} {ps : List Int} (ht : 0 < t) (hp : ∀ p ∈ ps, 0 ≤ p) (h : n ≤ N) (e : Pm.tot t N ps ≤ N) : Pm.tot t n ps ≤ N := by
  refine Int.le_trans ?_ e
  unfold Pm.tot
  exact Pm.sm_le fun p q => Pm.up_mono ht (hp p q) h
end K69
namespace K69
open PySem PySem.Spec PyProof.Rows L2 Tc Px Py
local macro_rules | `(tactic| infer_instance) => `(tactic| first
  | ((with_reducible show G1 _ _ (Stmt.While _ _ _ _) _ _); (with_reducible apply g1_while); (with_reducible assumption))
  )
section
variable {P : Program} {w : World} {K : PySem.W.Frag} {mg : Str → Option Value} {base : Heap}
theorem sc_with_counts : FnScope ["parts", "people", "twice", "before", "part", "count"] ["parts", "people", "twice"] (defScope s_with_counts) := ⟨rfl, rfl, rfl, by decide +kernel, rfl, by decide +kernel, by decide +kernel⟩
theorem first_ok {g : Int → Bool} {p L : Int} (h0 : p ≤ L) (h1 : L - p < 30000) (hg : g L = true) : p ≤ firstI g p ∧ firstI g p ≤ L ∧ g (firstI g p) = true ∧ ∀ k, p ≤ k → k < firstI g p → g k = false := by
  have lt : (List.range 30000).findIdx (fun i : Nat => g (p + i)) < (List.range 30000).length := List.findIdx_lt_length_of_exists ⟨(L - p).toNat, List.mem_range.mpr (by omega), by
    have : p + (((L - p).toNat : Nat) : Int) = L := by omega
    rw [this]
    exact hg⟩
  have at_ := List.findIdx_getElem (w := lt)
  rw [List.getElem_range] at at_
  have ml : ∀ k, p ≤ k → k < firstI g p → g k = false := fun k k0 k1 => by
    unfold firstI at k1
    have := List.not_of_lt_findIdx (xs := List.range 30000) (p := fun i : Nat => g (p + i)) (i := (k - p).toNat) (by omega)
    rw [List.getElem_range] at this
    have e : p + (((k - p).toNat : Nat) : Int) = k := by omega
    rw [e] at this
    exact this
  refine ⟨by unfold firstI; omega, ?_, at_, ml⟩
  by_cases c : firstI g p ≤ L
  · exact c
  · have := ml L h0 (by omega)
    rw [hg] at this
    cases this
def preWc (ds : List PyData) : Prop := ∃ (ps : List Int) (p0 t L : Int), ds = [.list (intsD ps), .int p0, .int t] ∧ (∀ p ∈ ps, 1 ≤ p ∧ p ≤ 3000) ∧ ps.length ≤ 6 ∧ (t = 200 ∨ t = 2000) ∧ 1 ≤ p0 ∧ p0 ≤ L ∧ L ≤ 20000 ∧ haveB t L ps = true
def wcD : List PyData → PyData
  | [.list xs, .int p0, .int t] => .int (firstI (fun n => haveB t n (asIs xs)) p0)
  | _ => .none
theorem ok_with_counts {f : Addr} {fd : FuncData} (F : Fun K "_with_counts" "_with_counts" s_with_counts f fd) (sm : ∃ o, K.lookup sysModules = some o) (B : Gls mg) :
    FnG P w K mg base (L2.CX P w) 1 f fd ["parts", "people", "twice"] (spF 3 preWc fun ds => .ok (wcD ds)) := by
  refine fn_data F sc_with_counts sm (by decide) _ _ fun cdv A outer s H E Bs ds hl hp c ex => ?_
  obtain ⟨ps, p0, t, L, rfl, hps, h6, ht, p1, pL, L2, hL⟩ := hp
  have nd := sc_with_counts.nd
  have e0 : wcD [.list (intsD ps), .int p0, .int t] = .int (firstI (fun n => haveB t n ps) p0) := by
    show PyData.int (firstI (fun n => haveB t n (asIs (intsD ps))) p0) = _
    rw [asIs_ints]
  rw [e0]
  clear e0
  obtain ⟨M0, M1, hM, hmin⟩ := first_ok (g := fun n => haveB t n ps) pL (by omega) hL
  generalize firstI (fun n => haveB t n ps) p0 = M at M0 M1 hM hmin ex ⊢
  refine gs_cons ?_
  repeat infer_instance
  refine ⟨fun m Γ => ∃ (n b : Int) (s4 s5 : Sl), Γ = [.d (.list (intsD ps)), .d (.int n), .d (.int t), .d (.int b), s4, s5] ∧ p0 ≤ n ∧ n ≤ M ∧ 0 ≤ b ∧ b ≤ n ∧ (b = n → haveB t n ps = true) ∧ m = (M - b).toNat, ⟨_, p0, 0, _, _, rfl, Int.le_refl _, M0, Int.le_refl _, by omega, fun z => by omega, rfl⟩, ?_⟩
  rintro m Γ ⟨n, b, s4, s5, rfl, n0, n1, b0, b1, hb, rfl⟩
  repeat infer_instance
  by_cases hd : b < n
  · rw [decide_eq_true hd, if_pos rfl]
    repeat infer_instance
    refine ⟨fun i Γ => ∃ (k : Int) (s4 s5 : Sl), Γ = [.d (.list (intsD ps)), .d (.int k), .d (.int t), .d (.int n), s4, s5] ∧ n ≤ k ∧ k ≤ M ∧ (k = n → haveB t n (ps.take i) = true), ⟨n, _, _, rfl, Int.le_refl _, n1, fun _ => rfl⟩, fun _ _ _ _ => trivial, ?_, ?_⟩
    · rintro i Γ hi ⟨k, s4, s5, rfl, k0, k1, hk⟩
      have hi : i < ps.length := by rw [List.length_map] at hi; exact hi
      have ho := hps _ (List.getElem_mem hi)
      have hb1 := of_decide_eq_true (List.all_eq_true.mp hM _ (List.getElem_mem hi))
      have htk : ps.take (i + 1) = ps.take i ++ [ps[i]] := List.take_succ_eq_append_getElem hi
      rw [nth_int hi]
      generalize ps[i] = v at ho hb1 htk ⊢
      obtain ⟨u0, u1⟩ := up_bd ht ho (show 0 ≤ k by omega) (show k ≤ 20000 by omega)
      have sl := step_le (t := t) (p := v) (n := k) (N := M) (by omega) (by omega) k1 hb1
      repeat infer_instance
      rw [show -(-v * k / t) = Pm.up t k v from rfl]
      generalize hU : Pm.up t k v = U at u0 u1 sl ⊢
      repeat infer_instance
      repeat (with_reducible refine gs_nil ?_)
      refine ⟨_, _, _, rfl, ?_, ?_, fun z => ?_⟩
      · split <;> omega
      · split <;> omega
      · have q : k = n ∧ U * t / (v + 2) + 1 ≤ k := by split at z <;> omega
        obtain ⟨rfl, q⟩ := q
        rw [htk]
        unfold haveB at hk ⊢
        rw [List.all_append, hk rfl, Bool.true_and, List.all_cons, List.all_nil, Bool.and_true]
        refine decide_eq_true ?_
        rw [← hU] at q
        exact (step_has (by omega) (by omega)).mp q
    · rintro Γ ⟨k, s4, s5, rfl, k0, k1, hk⟩
      rw [List.length_map, List.take_length] at hk
      repeat (with_reducible refine gs_nil ?_)
      exact ⟨(M - n).toNat, by omega, k, n, s4, s5, rfl, by omega, k1, by omega, k0, fun z => by rw [← z]; exact hk z.symm, rfl⟩
  · have e : b = n := by omega
    have hn := hb e
    have : n = M := by
      by_cases c : n < M
      · have := hmin n n0 c
        rw [hn] at this
        cases this
      · omega
    subst this
    rw [decide_eq_false hd, if_neg (by decide)]
    repeat infer_instance
    exact rfl
end
end K69
namespace K69
open PySem PySem.Spec PyProof.Rows L2 Tc Px Py
local macro_rules | `(tactic| infer_instance) => `(tactic| first
  | ((with_reducible show G1 _ _ (Stmt.While _ _ _ _) _ _); (with_reducible apply g1_while); (with_reducible assumption))
  )
section
variable {P : Program} {w : World} {K : PySem.W.Frag} {mg : Str → Option Value} {base : Heap}
theorem sc_least_people : FnScope ["poll", "twice", "leasts", "people", "more"] ["poll"] (defScope s_least_people) := ⟨rfl, rfl, rfl, by decide +kernel, rfl, by decide +kernel, by decide +kernel⟩
theorem gap_bd {u : Int} {ns : List Int} (h : Shs u ns) (hu : u = 100 ∨ u = 1000) (r0 : (lsI ns).sum < 2 * u) (r1 : 2 * u < (bsI ns).sum) : gapI u ns ≤ 12001 := by
  have h6 := h.six
  have lb := ls_len ns
  have lB : (bsI ns).length = ns.length := List.length_map _
  have a : lastA (2 * u) (lsI ns) ≤ 12000 := by
    unfold lastA
    refine Int.ediv_le_of_le_mul (by omega) (Int.le_trans (b := 12000) ?_ (by omega))
    rcases hu with rfl | rfl <;> omega
  have b : lastB (2 * u) (bsI ns) ≤ 12000 := by
    unfold lastB
    refine Int.ediv_le_of_le_mul (by omega) (Int.le_trans (b := 12000) ?_ (by omega))
    rcases hu with rfl | rfl <;> omega
  unfold gapI
  split <;> omega
def leastD (u : Int) (ns : List Int) : PyData := if noneI u ns = true then .none else if (lsI ns).sum = 2 * u then .int (mulI u ns) else .int (firstI (fun n => addB u n ns) 1)
def lpD : List PyData → PyData := onPl leastD
theorem ok_least_people {C : Addr} (FP : Call P w K mg base (L2.CX P w) 1 "need_poll" ["poll"] (spF 1 (fun ds => ∃ fs, ds = [inst C fs]) fun _ => .ok .none))(FT : Call P w K mg base (L2.CX P w) 3 "_twice" ["poll"] (spF 1 (prePl C) fun ds => .ok (twD ds)))(FL : Call P w K mg base (L2.CX P w) 3 "_leasts" ["poll"] (spF 1 (prePl C) fun ds => .ok (lsD' ds)))(FR : Call P w K mg base (L2.CX P w) 1 "_rounded_up" ["parts", "people", "twice"] (spF 3 preUp fun ds => .ok (upD ds)))(FN : Call P w K mg base (L2.CX P w) 4 "_fits_none" ["poll"] (spF 1 (prePl C) fun ds => .ok (fnD ds))) (FM : Call P w K mg base (L2.CX P w) 4 "_fits_multiples" ["poll"] (spF 1 (prePl C) fun ds => .ok (fmD ds)))
    (FU : Call P w K mg base (L2.CX P w) 4 "_multiplied" ["poll"] (spF 1 (prePl C) fun ds => .ok (muD ds))) (FW : Call P w K mg base (L2.CX P w) 1 "_with_counts" ["parts", "people", "twice"] (spF 3 preWc fun ds => .ok (wcD ds))) (FA : Call P w K mg base (L2.CX P w) 4 "_adds_up" ["poll", "people"] (spF 2 (preAd C) fun ds => .ok (adD ds)))
    {f : Addr} {fd : FuncData} (F : Fun K "least_people" "least_people" s_least_people f fd) (sm : ∃ o, K.lookup sysModules = some o) (B : Gls mg) :
    FnG P w K mg base (L2.CX P w) 5 f fd ["poll"] (spF 1 (prePl C) fun ds => .ok (lpD ds)) := by
  refine fn_data F sc_least_people sm (by decide) _ _ fun cdv A outer s H E Bs ds hl hp c ex => ?_
  have pp : prePl C ds := hp
  obtain ⟨q, ns, rfl, hq, hns⟩ := hp
  obtain ⟨pu, q0, q1⟩ := place_u hq
  have nd := sc_least_people.nd
  have h6 := hns.six
  have eT : twD [inst C (pF q ns)] = .int (2 * wholeI q) := on_pl _
  have eL : lsD' [inst C (pF q ns)] = .list (intsD (lsI ns)) := on_pl _
  have eB : bsD [inst C (pF q ns)] = .list (intsD (bsI ns)) := on_pl _
  have sL := ls_sum hns pu
  have sB := bs_sum hns pu
  have eN : fnD [inst C (pF q ns)] = .bool (noneI (wholeI q) ns) := on_pl _
  have eM : fmD [inst C (pF q ns)] = .bool (decide ((lsI ns).sum = 2 * wholeI q)) := on_pl _
  have eU : muD [inst C (pF q ns)] = .int (mulI (wholeI q) ns) := on_pl _
  rw [show lpD [inst C (pF q ns)] = leastD (wholeI q) ns from on_pl _]
  refine gs_cons ?_
  repeat infer_instance
  refine ⟨⟨_, rfl⟩, ?_⟩
  refine to_ok ?_
  repeat infer_instance
  refine ⟨pp, ?_⟩
  rw [eN]
  refine to_ok ?_
  unfold leastD
  cases hN : noneI (wholeI q) ns with
  | true =>
    repeat infer_instance
    exact rfl
  | false =>
  rw [if_neg (by decide)]
  repeat infer_instance
  repeat (with_reducible refine gs_nil ?_)
  show Gs _ _ _ _ _
  refine gs_cons ?_
  repeat infer_instance
  refine ⟨pp, ?_⟩
  rw [eM]
  refine to_ok ?_
  by_cases hM : (lsI ns).sum = 2 * wholeI q
  · rw [decide_eq_true hM, if_pos hM]
    repeat infer_instance
    refine ⟨pp, ?_⟩
    rw [eU]
    refine to_ok ?_
    exact rfl
  rw [decide_eq_false hM, if_neg hM]
  repeat infer_instance
  repeat (with_reducible refine gs_nil ?_)
  show Gs _ _ _ _ _
  refine gs_cons ?_
  repeat infer_instance
  refine ⟨pp, ?_⟩
  rw [eT]
  refine to_ok ?_
  repeat infer_instance
  refine ⟨pp, ?_⟩
  rw [eL]
  refine to_ok ?_
  repeat infer_instance
  have r : (lsI ns).sum < 2 * wholeI q ∧ 2 * wholeI q < (bsI ns).sum := by
    unfold noneI at hN
    rw [Bool.or_eq_false_iff, decide_eq_false_iff_not, decide_eq_false_iff_not] at hN
    omega
  have gb := gap_bd hns pu r.1 r.2
  have u1 : 0 < wholeI q := by omega
  obtain ⟨M0, M1, hA, hmin⟩ := first_ok (g := fun n => addB (wholeI q) n ns) (p := 1) (L := if gapI (wholeI q) ns < 1 then 1 else gapI (wholeI q) ns) (by split <;> omega) (by split <;> omega) (gap_fits hns u1 r.1 r.2 (by split <;> omega))
  have M2 : firstI (fun n => addB (wholeI q) n ns) 1 ≤ 12001 := Int.le_trans M1 (by split <;> omega)
  generalize firstI (fun n => addB (wholeI q) n ns) 1 = M at M0 M1 M2 hA hmin ⊢
  have hH := have_add hns u1 M0 hA
  have hT := (add_is.mp hA).1
  rw [← tot_ls] at hT
  have oL := ls_ok hns
  have lb := ls_len ns
  have pw : ∀ k : Int, 1 ≤ k → k ≤ M → preWc [.list (intsD (lsI ns)), .int k, .int (2 * wholeI q)] := fun k k1 k2 => ⟨lsI ns, k, _, M, rfl, fun p hp => by have := oL p hp; omega, by omega, by omega, k1, k2, by omega, hH⟩
  have ew : ∀ k : Int, wcD [.list (intsD (lsI ns)), .int k, .int (2 * wholeI q)] = .int (firstI (fun n => haveB (2 * wholeI q) n (lsI ns)) k) := fun k => by
    show PyData.int (firstI (fun n => haveB (2 * wholeI q) n (asIs (intsD (lsI ns)))) k) = _
    rw [asIs_ints]
  have fw : ∀ k : Int, 1 ≤ k → k ≤ M → k ≤ firstI (fun n => haveB (2 * wholeI q) n (lsI ns)) k ∧ firstI (fun n => haveB (2 * wholeI q) n (lsI ns)) k ≤ M := fun k k1 k2 => by
    obtain ⟨a, b, _⟩ := first_ok (g := fun n => haveB (2 * wholeI q) n (lsI ns)) (p := k) (L := M) k2 (by omega) hH
    exact ⟨a, b⟩
  refine ⟨pw 1 (by omega) M0, ?_⟩
  rw [ew]
  refine to_ok ?_
  obtain ⟨f1, f2⟩ := fw 1 (by omega) M0
  generalize firstI (fun n => haveB (2 * wholeI q) n (lsI ns)) 1 = n1 at f1 f2 ⊢
  repeat infer_instance
  refine ⟨fun m Γ => ∃ (n : Int) (s4 : Sl), Γ = [.d (inst C (pF q ns)), .d (.int (2 * wholeI q)), .d (.list (intsD (lsI ns))), .d (.int n), s4] ∧ 1 ≤ n ∧ n ≤ M ∧ m = (M - n).toNat, ⟨_, n1, _, rfl, f1, f2, rfl⟩, ?_⟩
  rintro m Γ ⟨n, s4, rfl, n0, n2, rfl⟩
  repeat infer_instance
  refine ⟨⟨q, n, ns, rfl, hq, hns, n0, by omega⟩, ?_⟩
  rw [show adD [inst C (pF q ns), .int n] = .bool (addB (wholeI q) n ns) from by
    show onPl (fun u ns => .bool (addB u n ns)) [inst C (pF q ns)] = _
    exact on_pl _]
  refine to_ok ?_
  refine ⟨_, rfl, ?_⟩
  cases hB : addB (wholeI q) n ns with
  | true =>
    have : n = M := by
      by_cases c : n < M
      · have := hmin n n0 c
        rw [hB] at this
        cases this
      · omega
    subst this
    repeat infer_instance
    exact rfl
  | false =>
    have nM : n ≠ M := fun e => by
      rw [e] at hB
      rw [hA] at hB
      cases hB
    have sk := skip_le (t := 2 * wholeI q) (n := n) (N := M) (ps := lsI ns) (by omega) (fun p hp => by have := oL p hp; omega) n2 hT
    repeat infer_instance
    refine ⟨⟨lsI ns, n, _, rfl, fun p hp => by have := oL p hp; omega, by omega, by omega, by omega, by omega⟩, ?_⟩
    rw [up_is]
    refine to_ok ?_
    refine sum_intsL ?_
    rw [show (upL (2 * wholeI q) n (lsI ns)).sum = Pm.tot (2 * wholeI q) n (lsI ns) from rfl]
    generalize Pm.tot (2 * wholeI q) n (lsI ns) = S at sk ⊢
    repeat infer_instance
    have k1 : n + 1 ≤ (if S > n + 1 then S else n + 1) := by split <;> omega
    have k2 : (if S > n + 1 then S else n + 1) ≤ M := by split <;> omega
    generalize (if S > n + 1 then S else n + 1) = k at k1 k2 ⊢
    refine ⟨pw k (by omega) k2, ?_⟩
    rw [ew]
    refine to_ok ?_
    obtain ⟨g1, g2⟩ := fw k (by omega) k2
    generalize firstI (fun n => haveB (2 * wholeI q) n (lsI ns)) k = n3 at g1 g2 ⊢
    repeat infer_instance
    repeat (with_reducible refine gs_nil ?_)
    exact ⟨(M - n3).toNat, by omega, n3, _, rfl, by omega, g2, rfl⟩
end
end K69
namespace K69
open PySem PySem.Spec PyProof.Rows L2 Tc Px Py
local macro_rules | `(tactic| fail "x21GI0") => `(tactic| first
  | ((with_reducible show GI _ _ _ (Expr.Call (Expr.Name "zip" _) [Expr.Call (Expr.Name "range" _) _ _ _, _, _] _ _) _ _); (with_reducible apply gi_zipR true true); (eq_refl); (eq_refl); (exact Gls.zip (by assumption)); (eq_refl); (eq_refl); (exact Gls.range (by assumption)); (eq_refl); (eq_refl); (eq_refl); (eq_refl); (eq_refl); (eq_refl))
  )
local macro_rules | `(tactic| infer_instance) => `(tactic| first
  | ((with_reducible show GI _ _ _ (Expr.Call (Expr.Name "zip" _) [Expr.Call (Expr.Name "range" _) _ _ _, _, _] _ _) _ _); fail "x21GI0")
  )
section
variable {P : Program} {w : World} {K : PySem.W.Frag} {mg : Str → Option Value} {base : Heap}
theorem sc_fitting : FnScope ["poll", "first", "behind", "twice", "behinds", "too_many", "enough", "people", "low", "high"] ["poll", "first", "behind"] (defScope s_fitting) := ⟨rfl, rfl, rfl, by decide +kernel, rfl, by decide +kernel, by decide +kernel⟩
def fitsI (u f b : Int) (ns : List Int) : List Int := (rangeI f b).filter fun n => addB u n ns
def preFt (C : Addr) (ds : List PyData) : Prop := ∃ (q f b : Int) (ns : List Int), ds = [inst C (pF q ns), .int f, .int b] ∧ place q ∧ Shs (wholeI q) ns ∧ 1 ≤ f ∧ f ≤ b ∧ b ≤ 20000
def ftD : List PyData → PyData
  | [d, .int f, .int b] => onPl (fun u ns => .list (intsD (fitsI u f b ns))) [d]
  | _ => .none
theorem ps_is (ps : List Int) (t over f b : Int) : psD [.list (intsD ps), .int t, .int over, .tuple [.int f, .int b]] = .list (intsD (passI t over f b ps)) := by
  show PyData.list (intsD (passI t over f b (asIs (intsD ps)))) = _
  rw [asIs_ints]
theorem nth_some {l : List Int} {i : Nat} {x : Int} (h : l[i]? = some x) : nth (intsD l) i = .int x := by
  obtain ⟨hi, e⟩ := List.getElem?_eq_some_iff.mp h
  rw [nth_int hi, e]
theorem ok_fitting {C : Addr} (FT : Call P w K mg base (L2.CX P w) 3 "_twice" ["poll"] (spF 1 (prePl C) fun ds => .ok (twD ds)))(FL : Call P w K mg base (L2.CX P w) 3 "_leasts" ["poll"] (spF 1 (prePl C) fun ds => .ok (lsD' ds)))(FB : Call P w K mg base (L2.CX P w) 3 "_behinds" ["poll"] (spF 1 (prePl C) fun ds => .ok (bsD ds)))(FQ : Call P w K mg base (L2.CX P w) 2 "_passing" ["parts", "twice", "over", "numbers"] (spF 4 prePs fun ds => .ok (psD ds))) {f : Addr} {fd : FuncData} (F : Fun K "_fitting" "_fitting" s_fitting f fd) (sm : ∃ o, K.lookup sysModules = some o) (B : Gls mg) :
    FnG P w K mg base (L2.CX P w) 4 f fd ["poll", "first", "behind"] (spF 3 (preFt C) fun ds => .ok (ftD ds)) := by
  refine fn_data F sc_fitting sm (by decide) _ _ fun cdv A outer s H E Bs ds hl hp c ex => ?_
  obtain ⟨q, f, b, ns, rfl, hq, hns, f1, fb, b1⟩ := hp
  have pp : prePl C [inst C (pF q ns)] := ⟨q, ns, rfl, hq, hns⟩
  obtain ⟨pu, q0, q1⟩ := place_u hq
  have nd := sc_fitting.nd
  have h6 := hns.six
  have eT : twD [inst C (pF q ns)] = .int (2 * wholeI q) := on_pl _
  have eL : lsD' [inst C (pF q ns)] = .list (intsD (lsI ns)) := on_pl _
  have eB : bsD [inst C (pF q ns)] = .list (intsD (bsI ns)) := on_pl _
  have sL := ls_sum hns pu
  have sB := bs_sum hns pu
  rw [show ftD [inst C (pF q ns), .int f, .int b] = .list (intsD (fitsI (wholeI q) f b ns)) from by
    show onPl (fun u ns => .list (intsD (fitsI u f b ns))) [inst C (pF q ns)] = _
    exact on_pl _]
  have lb := ls_len ns
  have lB : (bsI ns).length = ns.length := List.length_map _
  have oL := ls_ok hns
  have oB := bs_ok hns
  have h2 := hns.two
  have lI : (intsD (bsI ns)).length = ns.length := (List.length_map _).trans lB
  refine gs_cons ?_
  repeat infer_instance
  refine ⟨pp, ?_⟩
  rw [eT]
  refine to_ok ?_
  repeat infer_instance
  refine ⟨pp, ?_⟩
  rw [eB]
  refine to_ok ?_
  repeat infer_instance
  refine ⟨pp, ?_⟩
  rw [eL]
  refine to_ok ?_
  repeat infer_instance
  refine ⟨⟨lsI ns, _, _, _, _, rfl, fun p hp => by have := oL p hp; omega, by omega, by omega, by omega, by omega, f1, fb, b1⟩, ?_⟩
  rw [ps_is]
  refine to_ok ?_
  repeat infer_instance
  refine ⟨⟨bsI ns, _, _, _, _, rfl, fun p hp => by have := oB p hp; omega, by omega, by omega, by omega, by omega, f1, fb, b1⟩, ?_⟩
  rw [ps_is]
  refine to_ok ?_
  repeat infer_instance
  ((with_reducible apply gf_lk); (eq_refl); (assumption); (eq_refl); (eq_refl); (eq_refl); (intro _; eq_refl))
  repeat infer_instance
  refine ⟨⟨by omega, by omega, by omega, by omega⟩, ?_⟩
  repeat infer_instance
  have lT : b - f ≤ (passI (2 * wholeI q) 0 f b (lsI ns)).length := Pm.pass_len
  have lE : b - f ≤ (passI (2 * wholeI q) (((intsD (bsI ns)).length : Int) - 1) f b (bsI ns)).length := Pm.pass_len
  rw [show min (min (b - f).toNat (intsD (passI (2 * wholeI q) (((intsD (bsI ns)).length : Int) - 1) f b (bsI ns))).length) (intsD (passI (2 * wholeI q) 0 f b (lsI ns))).length = (b - f).toNat from by
    have a1 : ∀ l : List Int, (intsD l).length = l.length := fun l => List.length_map _
    rw [a1 (passI _ _ _ _ (bsI ns)), a1 (passI _ _ _ _ (lsI ns))]
    omega]
  have u1 : 0 < wholeI q := by omega
  refine ⟨⟨trivial, trivial⟩, Nat.le_trans (show (b - f).toNat ≤ 20000 by omega) (by decide), fun i => addB (wholeI q) (f + (i : Nat)) ns, fun i => .int (f + (i : Nat)), fun i hi B' => ?_, ?_⟩
  · obtain ⟨lo, hi', e1, e2, e3⟩ := fit_at (f := f) (b := b) hns u1 f1 (i := i) (by omega)
    rw [show ((intsD (bsI ns)).length : Int) = ((bsI ns).length : Int) from by rw [List.length_map]]
    have n1 := nth_some e1
    have n2 := nth_some e2
    show Blk _ _ fun Y => GC _ _ _ _ (.tuple [.int (f + (i : Nat)), nth _ i, nth _ i]) _ _
    rw [n1, n2]
    repeat infer_instance
    by_cases hl : lo ≤ f + (i : Nat)
    · rw [decide_eq_true hl, Bool.true_and] at e3
      rw [decide_eq_true hl, if_pos rfl]
      repeat infer_instance
      refine ⟨e3, ?_⟩
      by_cases hh : f + (i : Nat) < hi'
      · rw [decide_eq_true hh, if_pos rfl]
        repeat infer_instance
      · rw [decide_eq_false hh, if_neg (by decide)]
        exact rfl
    · rw [decide_eq_false hl, Bool.false_and] at e3
      rw [decide_eq_false hl, if_neg (by decide)]
      repeat infer_instance
      refine ⟨e3, ?_⟩
      rw [if_neg (by decide)]
      exact rfl
  · show Out.ok (PyData.list (intsD (fitsI (wholeI q) f b ns))) = Out.ok (PyData.list _)
    refine congrArg (fun l => Out.ok (PyData.list l)) ?_
    unfold fitsI rangeI intsD
    rw [List.filter_map, List.map_map]
    rfl
end
end K69
namespace K69
open PySem PySem.Spec PyProof.Rows L2 Tc Px Py
/-! numbers: what people_for and from_on tell -/
theorem rg_mem {a b k : Int} : k ∈ rangeI a b ↔ a ≤ k ∧ k < b := by
  unfold rangeI
  rw [List.mem_map]
  constructor
  · rintro ⟨i, hi, rfl⟩
    have := List.mem_range.mp hi
    omega
  · rintro ⟨h1, h2⟩
    exact ⟨(k - a).toNat, List.mem_range.mpr (by omega), by omega⟩
theorem rg_asc (a b : Int) : (rangeI a b).Pairwise (· < ·) := by
  unfold rangeI
  refine List.pairwise_map.mpr (List.pairwise_lt_range.imp fun {i j} h => ?_)
  omega
theorem rg_len (a b : Int) : (rangeI a b).length = (b - a).toNat := by
  unfold rangeI
  rw [List.length_map, List.length_range]
theorem ft_mem {u a b k : Int} {ns : List Int} : k ∈ fitsI u a b ns ↔ (a ≤ k ∧ k < b) ∧ addB u k ns = true := by
  unfold fitsI
  rw [List.mem_filter, rg_mem]
theorem ft_asc (u a b : Int) (ns : List Int) : (fitsI u a b ns).Pairwise (· < ·) := (rg_asc a b).filter _
theorem ft_len (u a b : Int) (ns : List Int) : (fitsI u a b ns).length ≤ (b - a).toNat := by
  unfold fitsI
  refine Nat.le_trans (List.length_filter_le _ _) ?_
  rw [rg_len]
  exact Nat.le_refl _
theorem mul_mem {f m k : Int} (f1 : 1 ≤ f) (hm : 0 ≤ m) : k ∈ multI f m ↔ (1 ≤ k ∧ k ≤ m) ∧ f ∣ k := by
  have q0 : 0 ≤ m / f := Int.ediv_nonneg hm (by omega)
  unfold multI
  rw [List.mem_map]
  constructor
  · rintro ⟨i, hi, rfl⟩
    have hi := List.mem_range.mp hi
    have e : f + (i : Int) * f = ((i : Int) + 1) * f := by rw [Int.add_mul, Int.one_mul, Int.add_comm]
    rw [e]
    have h1 : ((i : Int) + 1) ≤ m / f := by omega
    have h2 : ((i : Int) + 1) * f ≤ m := Int.le_trans (Int.mul_le_mul_of_nonneg_right h1 (by omega)) (Int.ediv_mul_le _ (by omega))
    have h3 : 1 * f ≤ ((i : Int) + 1) * f := Int.mul_le_mul_of_nonneg_right (by omega) (by omega)
    exact ⟨⟨by omega, h2⟩, Int.dvd_mul_left _ _⟩
  · rintro ⟨⟨k1, km⟩, c, rfl⟩
    have c1 : 1 ≤ c := by
      by_cases z : 1 ≤ c
      · exact z
      · have : f * c ≤ f * 0 := Int.mul_le_mul_of_nonneg_left (by omega) (by omega)
        omega
    have cm : c ≤ m / f := (Int.le_ediv_iff_mul_le (by omega)).mpr (by rw [Int.mul_comm]; exact km)
    refine ⟨(c - 1).toNat, List.mem_range.mpr (by omega), ?_⟩
    have : (((c - 1).toNat : Nat) : Int) = c - 1 := by omega
    rw [this, Int.sub_mul, Int.one_mul, Int.mul_comm c]
    omega
theorem mul_asc {f m : Int} (f1 : 1 ≤ f) : (multI f m).Pairwise (· < ·) := by
  unfold multI
  refine List.pairwise_map.mpr (List.pairwise_lt_range.imp fun {i j} h => ?_)
  have : ((i : Int)) * f < (j : Int) * f := Int.mul_lt_mul_of_pos_right (by omega) (by omega)
  omega
theorem pp_nil {u M m : Int} {ns : List Int} (h : ∀ k, 1 ≤ k → k < M → addB u k ns = false) (hm : m < M) : fitsI u 1 (m + 1) ns = [] := by
  refine List.eq_nil_iff_forall_not_mem.mpr fun k hk => ?_
  obtain ⟨⟨k1, k2⟩, hb⟩ := ft_mem.mp hk
  rw [h k k1 (by omega)] at hb
  cases hb
theorem pp_mult {u m : Int} {ns : List Int} (h : Shs u ns) (hu : 0 < u) (e : (lsI ns).sum = 2 * u) (f1 : 1 ≤ mulI u ns) (hm : 0 ≤ m) : fitsI u 1 (m + 1) ns = multI (mulI u ns) m := by
  refine asc_uniq (ft_asc _ _ _ _) (mul_asc f1) fun k => ?_
  rw [ft_mem, mul_mem f1 hm]
  constructor
  · rintro ⟨⟨k1, k2⟩, hb⟩
    exact ⟨⟨k1, by omega⟩, (add_mul h hu k1 e).mp hb⟩
  · rintro ⟨⟨k1, k2⟩, hb⟩
    exact ⟨⟨k1, by omega⟩, (add_mul h hu k1 e).mpr hb⟩
theorem pp_gap {u m M b : Int} {ns : List Int} (M1 : 1 ≤ M) (h : ∀ k, 1 ≤ k → k < M → addB u k ns = false) (hb : ∀ k, b ≤ k → k ≤ m → addB u k ns = true) (Mb : M ≤ b) (bm : b ≤ m + 1) : fitsI u 1 (m + 1) ns = fitsI u M b ns ++ rangeI b (m + 1) := by
  refine asc_uniq (ft_asc _ _ _ _) (List.pairwise_append.mpr ⟨ft_asc _ _ _ _, rg_asc _ _, fun x hx y hy => ?_⟩) fun k => ?_
  · have := ft_mem.mp hx
    have := rg_mem.mp hy
    omega
  · rw [List.mem_append, ft_mem, ft_mem, rg_mem]
    constructor
    · rintro ⟨⟨k1, k2⟩, z⟩
      by_cases c : b ≤ k
      · exact .inr ⟨c, k2⟩
      · refine .inl ⟨⟨?_, by omega⟩, z⟩
        by_cases d : M ≤ k
        · exact d
        · rw [h k k1 (by omega)] at z
          cases z
    · rintro (⟨⟨k1, k2⟩, z⟩ | ⟨k1, k2⟩)
      · exact ⟨⟨by omega, by omega⟩, z⟩
      · exact ⟨⟨by omega, by omega⟩, hb k k1 (by omega)⟩
/-- from which number on all up to k have g -/
def dn (g : Int → Bool) : Nat → Int
  | 0 => 1
  | k + 1 => if g ((k : Int) + 1) = true then dn g k else (k : Int) + 2
theorem dn_spec (g : Int → Bool) : ∀ k : Nat, 1 ≤ dn g k ∧ dn g k ≤ (k : Int) + 1 ∧ (∀ n, dn g k ≤ n → n ≤ k → g n = true) ∧ (dn g k = 1 ∨ g (dn g k - 1) = false)
  | 0 => ⟨Int.le_refl _, Int.le_refl _, fun n h1 h2 => by have : (1 : Int) ≤ n := h1; omega, .inl rfl⟩
  | k + 1 => by
    obtain ⟨a, b, c, d⟩ := dn_spec g k
    by_cases h : g ((k : Int) + 1) = true
    · have e : dn g (k + 1) = dn g k := if_pos h
      rw [e]
      refine ⟨a, by omega, fun n h1 h2 => ?_, d⟩
      by_cases q : n = (k : Int) + 1
      · rw [q]
        exact h
      · exact c n h1 (by omega)
    · have e : dn g (k + 1) = (k : Int) + 2 := if_neg h
      rw [e]
      refine ⟨by omega, by omega, fun n h1 h2 => by omega, .inr ?_⟩
      rw [show (k : Int) + 2 - 1 = (k : Int) + 1 from by omega]
      exact Bool.eq_false_iff.mpr h
/-- N is the number from which on all fit -/
def FromIs (u : Int) (ns : List Int) (N : Int) : Prop := 1 ≤ N ∧ (∀ n, N ≤ n → addB u n ns = true) ∧ (N = 1 ∨ addB u (N - 1) ns = false)
theorem from_uniq {u N N' : Int} {ns : List Int} (h : FromIs u ns N) (h' : FromIs u ns N') : N = N' := by
  obtain ⟨a, b, c⟩ := h
  obtain ⟨a', b', c'⟩ := h'
  rcases Int.lt_trichotomy N N' with z | z | z
  · rcases c' with c' | c'
    · omega
    · rw [b (N' - 1) (by omega)] at c'
      cases c'
  · exact z
  · rcases c with c | c
    · omega
    · rw [b' (N - 1) (by omega)] at c
      cases c
def fromI (u : Int) (ns : List Int) : Int := dn (fun n => addB u n ns) (gapI u ns - 1).toNat
theorem gap_pos {u : Int} {ns : List Int} (h : Shs u ns) (hu : 0 < u) (r1 : 2 * u < (bsI ns).sum) : 1 ≤ gapI u ns := by
  have h2 := h.two
  have lB : (bsI ns).length = ns.length := List.length_map _
  have : 0 ≤ lastB (2 * u) (bsI ns) := by
    unfold lastB
    refine Int.ediv_nonneg (Int.mul_nonneg (by omega) (by omega)) (by omega)
  unfold gapI
  split <;> omega
theorem from_is {u : Int} {ns : List Int} (h : Shs u ns) (hu : 0 < u) (r0 : (lsI ns).sum < 2 * u) (r1 : 2 * u < (bsI ns).sum) : FromIs u ns (fromI u ns) := by
  have g1 := gap_pos h hu r1
  obtain ⟨a, b, c, d⟩ := dn_spec (fun n => addB u n ns) (gapI u ns - 1).toNat
  refine ⟨a, fun n hn => ?_, d⟩
  by_cases z : n ≤ ((gapI u ns - 1).toNat : Int)
  · exact c n hn z
  · exact gap_fits h hu r0 r1 (by omega)
theorem from_le {u : Int} {ns : List Int} (h : Shs u ns) (hu : 0 < u) (r1 : 2 * u < (bsI ns).sum) : fromI u ns ≤ gapI u ns := by
  have g1 := gap_pos h hu r1
  obtain ⟨a, b, c, d⟩ := dn_spec (fun n => addB u n ns) (gapI u ns - 1).toNat
  unfold fromI
  omega
end K69
namespace K69
open PySem PySem.Spec PyProof.Rows L2 Tc Px Py
local macro_rules | `(tactic| fail "x23GE0") => `(tactic| first
  | ((with_reducible show GE _ _ (Expr.Call (Expr.Name "tuple" _) [Expr.Call (Expr.Name "range" _) [_, _, _] _ _] _ _) _ _); (with_reducible apply ge_tupR3); (eq_refl); (eq_refl); (eq_refl); (exact Gls.tuple (by assumption)); (eq_refl); (eq_refl); (exact Gls.range (by assumption)); (exact star_cons rfl); (eq_refl); (exact star_cons rfl))
  )
local macro_rules | `(tactic| fail "x23GF1") => `(tactic| first
  | ((with_reducible show GF _ _ (Expr.Call (Expr.Name "list" _) [Expr.Call (Expr.Name "range" _) [_, _] _ _] _ _) _ _); (with_reducible apply gf_listR); (eq_refl); (eq_refl); (eq_refl); (exact Gls.list (by assumption)); (eq_refl); (eq_refl); (exact Gls.range (by assumption)); (exact star_cons rfl); (exact star_cons rfl); (eq_refl); (exact star_cons rfl))
  )
local macro_rules | `(tactic| infer_instance) => `(tactic| first
  | ((with_reducible show GE _ _ (Expr.Call (Expr.Name "tuple" _) [Expr.Call (Expr.Name "range" _) [_, _, _] _ _] _ _) _ _); fail "x23GE0")
  | ((with_reducible show GF _ _ (Expr.Call (Expr.Name "list" _) [Expr.Call (Expr.Name "range" _) [_, _] _ _] _ _) _ _); fail "x23GF1")
  | ((with_reducible show GA _ _ (Expr.Starred (Expr.Call _ _ _ _) _ :: _) _ _); (with_reducible apply ga_star true); rotate_left; (eq_refl))
  | ((with_reducible show GQ _ _ true (Expr.Call (Expr.Name "list" _) _ _ _) _ _); (with_reducible refine gq_ofF ?_))
  | ((with_reducible show GQ _ _ true (Expr.Call (Expr.Name _ _) _ _ _) _ _); (with_reducible refine gq_of ?_))
  )
section
variable {P : Program} {w : World} {K : PySem.W.Frag} {mg : Str → Option Value} {base : Heap}
theorem sc_need_most : FnScope ["most"] ["most"] (defScope s_need_most) := ⟨rfl, rfl, rfl, by decide +kernel, rfl, by decide +kernel, by decide +kernel⟩
theorem sc_people_for : FnScope ["poll", "most", "first", "behind"] ["poll", "most"] (defScope s_people_for) := ⟨rfl, rfl, rfl, by decide +kernel, rfl, by decide +kernel, by decide +kernel⟩
theorem ok_need_most (F1 : FInt P w K mg base) (mm : ∃ t, mg "_MOST_MEANT" = some (.int 3000 t)) {f : Addr} {fd : FuncData} (F : Fun K "need_most" "need_most" s_need_most f fd) (sm : ∃ o, K.lookup sysModules = some o) (B : Gls mg) :
    FnG P w K mg base (L2.CX P w) 2 f fd ["most"] (spF 1 (fun ds => ∃ m : Int, ds = [.int m] ∧ 1 ≤ m ∧ m ≤ 3000) fun _ => .ok .none) := by
  refine fn_data F sc_need_most sm (by decide) _ _ fun cdv A outer s H E Bs ds hl hp c ex => ?_
  obtain ⟨m, rfl, h1, h2⟩ := hp
  refine gs_cons ?_
  repeat infer_instance
  show if (!true) = true then _ else _
  repeat infer_instance
  rw [decide_eq_true h1]
  repeat infer_instance
  rw [decide_eq_true h2]
  rw [if_neg (by decide)]
  repeat infer_instance
  repeat (with_reducible refine gs_nil ?_)
  exact rfl
def prePp (C : Addr) (ds : List PyData) : Prop := ∃ (q m : Int) (ns : List Int), ds = [inst C (pF q ns), .int m] ∧ place q ∧ Shs (wholeI q) ns ∧ 1 ≤ m ∧ m ≤ 3000
def ppD : List PyData → PyData
  | [d, .int m] => onPl (fun u ns => .tuple (intsD (fitsI u 1 (m + 1) ns))) [d]
  | _ => .none
theorem mul_pos {u : Int} {ns : List Int} (h : Shs u ns) (hu : 0 < u) : 1 ≤ mulI u ns := by
  obtain ⟨g1, g2⟩ := gcdI_pos (t := 2 * u) (ps := lsI ns) (by omega)
  obtain ⟨c, hc⟩ := (gcdI_dvd (t := 2 * u) (ps := lsI ns)).1
  unfold mulI
  exact (Int.le_ediv_iff_mul_le (by omega)).mpr (by omega)
theorem mul_none {u k : Int} {ns : List Int} (h : Shs u ns) (hu : 0 < u) (e : (lsI ns).sum = 2 * u) (k1 : 1 ≤ k) (k2 : k < mulI u ns) : addB u k ns = false := by
  cases q : addB u k ns with
  | false => rfl
  | true =>
    have := (add_mul h hu k1 e).mp q
    have := Int.le_of_dvd (by omega) this
    omega
theorem ft_is {C : Addr} (q f b : Int) (ns : List Int) : ftD [inst C (pF q ns), .int f, .int b] = .list (intsD (fitsI (wholeI q) f b ns)) := by
  show onPl (fun u ns => .list (intsD (fitsI u f b ns))) [inst C (pF q ns)] = _
  exact on_pl _
theorem ok_people_for {C : Addr} (FP : Call P w K mg base (L2.CX P w) 1 "need_poll" ["poll"] (spF 1 (fun ds => ∃ fs, ds = [inst C fs]) fun _ => .ok .none))(FMo : Call P w K mg base (L2.CX P w) 2 "need_most" ["most"] (spF 1 (fun ds => ∃ m : Int, ds = [.int m] ∧ 1 ≤ m ∧ m ≤ 3000) fun _ => .ok .none))(FLp : Call P w K mg base (L2.CX P w) 5 "least_people" ["poll"] (spF 1 (prePl C) fun ds => .ok (lpD ds)))(FM : Call P w K mg base (L2.CX P w) 4 "_fits_multiples" ["poll"] (spF 1 (prePl C) fun ds => .ok (fmD ds)))(FG : Call P w K mg base (L2.CX P w) 4 "_behind_gaps" ["poll"] (spF 1 (preGap C) fun ds => .ok (gapD ds)))(FT4 : Call P w K mg base (L2.CX P w) 4 "_fitting" ["poll", "first", "behind"] (spF 3 (preFt C) fun ds => .ok (ftD ds))){f : Addr} {fd : FuncData} (F : Fun K "people_for" "people_for" s_people_for f fd) (sm : ∃ o, K.lookup sysModules = some o) (B : Gls mg) :
    FnG P w K mg base (L2.CX P w) 6 f fd ["poll", "most"] (spF 2 (prePp C) fun ds => .ok (ppD ds)) := by
  refine fn_data F sc_people_for sm (by decide) _ _ fun cdv A outer s H E Bs ds hl hp c ex => ?_
  obtain ⟨q, m, ns, rfl, hq, hns, m1, m2⟩ := hp
  have pp : prePl C [inst C (pF q ns)] := ⟨q, ns, rfl, hq, hns⟩
  obtain ⟨pu, q0, q1⟩ := place_u hq
  have nd := sc_people_for.nd
  have h6 := hns.six
  have eT : twD [inst C (pF q ns)] = .int (2 * wholeI q) := on_pl _
  have eL : lsD' [inst C (pF q ns)] = .list (intsD (lsI ns)) := on_pl _
  have eB : bsD [inst C (pF q ns)] = .list (intsD (bsI ns)) := on_pl _
  have sL := ls_sum hns pu
  have sB := bs_sum hns pu
  rw [show ppD [inst C (pF q ns), .int m] = .tuple (intsD (fitsI (wholeI q) 1 (m + 1) ns)) from by
    show onPl (fun u ns => .tuple (intsD (fitsI u 1 (m + 1) ns))) [inst C (pF q ns)] = _
    exact on_pl _]
  have eM : fmD [inst C (pF q ns)] = .bool (decide ((lsI ns).sum = 2 * wholeI q)) := on_pl _
  have eP : lpD [inst C (pF q ns)] = leastD (wholeI q) ns := on_pl _
  have eG : gapD [inst C (pF q ns)] = .int (gapI (wholeI q) ns) := on_pl _
  refine gs_cons ?_
  repeat infer_instance
  refine ⟨⟨_, rfl⟩, ?_⟩
  refine to_ok ?_
  repeat infer_instance
  refine ⟨⟨m, rfl, m1, m2⟩, ?_⟩
  refine to_ok ?_
  repeat infer_instance
  refine ⟨pp, ?_⟩
  rw [eP]
  refine to_ok ?_
  unfold leastD
  cases hN : noneI (wholeI q) ns with
  | true =>
    rw [if_pos rfl]
    repeat infer_instance
    rw [if_pos (show isN PyData.none = true from rfl)]
    repeat infer_instance
    show Out.ok (PyData.tuple (intsD (fitsI (wholeI q) 1 (m + 1) ns))) = Out.ok (PyData.tuple [])
    rw [pp_nil (M := m + 1) (fun k k1 k2 => none_fits hns (by omega) k1 hN) (by omega)] <;> rfl
  | false =>
  rw [if_neg (by decide)]
  have u1 : 0 < wholeI q := by omega
  by_cases hM : (lsI ns).sum = 2 * wholeI q
  · have f1 : 1 ≤ mulI (wholeI q) ns := mul_pos hns u1
    rw [if_pos hM]
    repeat infer_instance
    rw [if_neg (show ¬ isN (PyData.int _) = true from fun z => (nomatch z))]
    repeat infer_instance
    by_cases c1 : m < mulI (wholeI q) ns
    · rw [decide_eq_true c1, if_pos rfl]
      repeat infer_instance
      show Out.ok (PyData.tuple (intsD (fitsI (wholeI q) 1 (m + 1) ns))) = Out.ok (PyData.tuple [])
      rw [pp_nil (M := mulI (wholeI q) ns) (fun k k1 k2 => mul_none hns u1 hM k1 k2) c1] <;> rfl
    · rw [decide_eq_false c1, if_neg (by decide)]
      repeat infer_instance
      repeat (with_reducible refine gs_nil ?_)
      show Gs _ _ _ _ _
      refine gs_cons ?_
      repeat infer_instance
      refine ⟨pp, ?_⟩
      rw [eM, decide_eq_true hM]
      refine to_ok ?_
      repeat infer_instance
      refine ⟨f1, by omega, by omega, ?_⟩
      show Out.ok (PyData.tuple (intsD (fitsI (wholeI q) 1 (m + 1) ns))) = Out.ok (PyData.tuple _)
      rw [pp_mult hns u1 hM f1 (by omega)]
  rw [if_neg hM]
  have r : (lsI ns).sum < 2 * wholeI q ∧ 2 * wholeI q < (bsI ns).sum := by
    unfold noneI at hN
    rw [Bool.or_eq_false_iff, decide_eq_false_iff_not, decide_eq_false_iff_not] at hN
    omega
  have gb := gap_bd hns pu r.1 r.2
  have g1 := gap_pos hns u1 r.2
  obtain ⟨M0, M1, hA, hmin⟩ := first_ok (g := fun n => addB (wholeI q) n ns) (p := 1) (L := gapI (wholeI q) ns) g1 (by omega) (gap_fits hns u1 r.1 r.2 (Int.le_refl _))
  generalize firstI (fun n => addB (wholeI q) n ns) 1 = M at M0 M1 hA hmin ⊢
  repeat infer_instance
  rw [if_neg (show ¬ isN (PyData.int _) = true from fun z => (nomatch z))]
  repeat infer_instance
  by_cases c1 : m < M
  · rw [decide_eq_true c1, if_pos rfl]
    repeat infer_instance
    show Out.ok (PyData.tuple (intsD (fitsI (wholeI q) 1 (m + 1) ns))) = Out.ok (PyData.tuple [])
    rw [pp_nil (M := M) hmin c1] <;> rfl
  rw [decide_eq_false c1, if_neg (by decide)]
  repeat infer_instance
  repeat (with_reducible refine gs_nil ?_)
  show Gs _ _ _ _ _
  refine gs_cons ?_
  repeat infer_instance
  refine ⟨pp, ?_⟩
  rw [eM, decide_eq_false hM]
  refine to_ok ?_
  repeat infer_instance
  repeat (with_reducible refine gs_nil ?_)
  show Gs _ _ _ _ _
  refine gs_cons ?_
  repeat infer_instance
  refine ⟨⟨q, ns, rfl, hq, hns, r.1, r.2⟩, ?_⟩
  rw [eG]
  refine to_ok ?_
  repeat infer_instance
  have b1 : M ≤ (if m + 1 < gapI (wholeI q) ns then m + 1 else gapI (wholeI q) ns) := by split <;> omega
  have b2 : (if m + 1 < gapI (wholeI q) ns then m + 1 else gapI (wholeI q) ns) ≤ m + 1 := by split <;> omega
  have b3 : ∀ k, (if m + 1 < gapI (wholeI q) ns then m + 1 else gapI (wholeI q) ns) ≤ k → k ≤ m → addB (wholeI q) k ns = true := fun k k1 k2 => gap_fits hns u1 r.1 r.2 (by split at k1 <;> omega)
  generalize (if m + 1 < gapI (wholeI q) ns then m + 1 else gapI (wholeI q) ns) = b at b1 b2 b3 ⊢
  refine ⟨⟨q, M, b, ns, rfl, hq, hns, M0, b1, by omega⟩, ?_⟩
  rw [ft_is]
  refine to_ok ?_
  refine ⟨_, rfl, ?_⟩
  repeat infer_instance
  refine ⟨⟨by omega, by omega, by omega, by omega⟩, ?_⟩
  repeat infer_instance
  have l1 := ft_len (wholeI q) M b ns
  have l2 := rg_len b (m + 1)
  refine ⟨Nat.le_trans (m := 8000) ?_ (by decide), ?_⟩
  · rw [List.length_append, List.length_append, List.length_map, List.length_map, List.length_nil]
    omega
  show Out.ok (PyData.tuple (intsD (fitsI (wholeI q) 1 (m + 1) ns))) = Out.ok (PyData.tuple _)
  rw [pp_gap M0 hmin b3 b1 b2, List.append_nil]
  unfold intsD
  rw [List.map_append]
end
end K69
namespace K69
open PySem PySem.Spec PyProof.Rows L2 Tc Px Py
local macro_rules | `(tactic| fail "x24GF0") => `(tactic| first
  | ((with_reducible show GF _ _ (Expr.Call (Expr.Name "sorted" _) [Expr.BinOp (Expr.Call (Expr.Name "set" _) [_] _ _) Operator.Sub (Expr.Call (Expr.Name "set" _) [_] _ _) _] _ _) _ _); (with_reducible apply gf_ssub); (eq_refl); (eq_refl); (eq_refl); (exact Gls.sorted (by assumption)); (eq_refl); (eq_refl); (exact Gls.set (by assumption)); (exact star_cons rfl); (exact star_cons rfl); (exact star_cons rfl))
  )
local macro_rules | `(tactic| fail "x24GF1") => `(tactic| first
  | ((with_reducible show GF _ _ (Expr.Call (Expr.Name "list" _) [Expr.Call (Expr.Name "range" _) [_, _] _ _] _ _) _ _); (with_reducible apply gf_listR); (eq_refl); (eq_refl); (eq_refl); (exact Gls.list (by assumption)); (eq_refl); (eq_refl); (exact Gls.range (by assumption)); (exact star_cons rfl); (exact star_cons rfl); (eq_refl); (exact star_cons rfl))
  )
local macro_rules | `(tactic| infer_instance) => `(tactic| first
  | ((with_reducible show GT _ _ (Expr.Name "gaps" _) _ _); (with_reducible apply gt_lst); rotate_left; (intro _; eq_refl))
  | ((with_reducible show GF _ _ (Expr.Call (Expr.Name "sorted" _) [Expr.BinOp (Expr.Call (Expr.Name "set" _) [_] _ _) Operator.Sub (Expr.Call (Expr.Name "set" _) [_] _ _) _] _ _) _ _); fail "x24GF0")
  | ((with_reducible show GF _ _ (Expr.Call (Expr.Name "list" _) [Expr.Call (Expr.Name "range" _) [_, _] _ _] _ _) _ _); fail "x24GF1")
  | ((with_reducible show GE _ _ (Expr.Call (Expr.Name "list" _) [Expr.Call (Expr.Name "range" _) [_, _] _ _] _ _) _ _); (with_reducible refine ge_ofF ?_))
  | ((with_reducible show G1 _ _ (Stmt.While _ _ _ _) _ _); (with_reducible apply g1_while); (with_reducible assumption))
  )
section
variable {P : Program} {w : World} {K : PySem.W.Frag} {mg : Str → Option Value} {base : Heap}
theorem sc_from_on : FnScope ["poll", "behind", "first", "gaps"] ["poll"] (defScope s_from_on) := ⟨rfl, rfl, rfl, by decide +kernel, rfl, by decide +kernel, by decide +kernel⟩
def frD : List PyData → PyData := onPl fun u ns => if noneI u ns = true ∨ (lsI ns).sum = 2 * u then .none else .int (fromI u ns)
theorem last_at (hs : List Int) (x : Int) : atD (List.map PyData.int (hs ++ [x])) (-1) = some (.int x) := by
  unfold atD
  have e : ixN (List.map PyData.int (hs ++ [x])).length (-1) = some hs.length := by
    rw [List.length_map, List.length_append, List.length_singleton]
    unfold ixN
    simp
    omega
  rw [e, List.map_append]
  simp
theorem ok_from_on {C : Addr} (at_ : ∃ t, mg "_AT_ONCE" = some (.int 64 t)) (FP : Call P w K mg base (L2.CX P w) 1 "need_poll" ["poll"] (spF 1 (fun ds => ∃ fs, ds = [inst C fs]) fun _ => .ok .none))(FN : Call P w K mg base (L2.CX P w) 4 "_fits_none" ["poll"] (spF 1 (prePl C) fun ds => .ok (fnD ds)))(FM : Call P w K mg base (L2.CX P w) 4 "_fits_multiples" ["poll"] (spF 1 (prePl C) fun ds => .ok (fmD ds)))(FG : Call P w K mg base (L2.CX P w) 4 "_behind_gaps" ["poll"] (spF 1 (preGap C) fun ds => .ok (gapD ds)))(FT4 : Call P w K mg base (L2.CX P w) 4 "_fitting" ["poll", "first", "behind"] (spF 3 (preFt C) fun ds => .ok (ftD ds))){f : Addr} {fd : FuncData} (F : Fun K "from_on" "from_on" s_from_on f fd) (sm : ∃ o, K.lookup sysModules = some o) (B : Gls mg) :
    FnG P w K mg base (L2.CX P w) 5 f fd ["poll"] (spF 1 (prePl C) fun ds => .ok (frD ds)) := by
  refine fn_data F sc_from_on sm (by decide) _ _ fun cdv A outer s H E Bs ds hl hp c ex => ?_
  have pp : prePl C ds := hp
  obtain ⟨q, ns, rfl, hq, hns⟩ := hp
  obtain ⟨pu, q0, q1⟩ := place_u hq
  have nd := sc_from_on.nd
  have h6 := hns.six
  have eT : twD [inst C (pF q ns)] = .int (2 * wholeI q) := on_pl _
  have eL : lsD' [inst C (pF q ns)] = .list (intsD (lsI ns)) := on_pl _
  have eB : bsD [inst C (pF q ns)] = .list (intsD (bsI ns)) := on_pl _
  have sL := ls_sum hns pu
  have sB := bs_sum hns pu
  rw [show frD [inst C (pF q ns)] = (if noneI (wholeI q) ns = true ∨ (lsI ns).sum = 2 * wholeI q then .none else .int (fromI (wholeI q) ns)) from on_pl _]
  have eN : fnD [inst C (pF q ns)] = .bool (noneI (wholeI q) ns) := on_pl _
  have eM : fmD [inst C (pF q ns)] = .bool (decide ((lsI ns).sum = 2 * wholeI q)) := on_pl _
  have eG : gapD [inst C (pF q ns)] = .int (gapI (wholeI q) ns) := on_pl _
  refine gs_cons ?_
  repeat infer_instance
  refine ⟨⟨_, rfl⟩, ?_⟩
  refine to_ok ?_
  repeat infer_instance
  refine ⟨pp, ?_⟩
  rw [eN]
  refine to_ok ?_
  cases hN : noneI (wholeI q) ns with
  | true =>
    repeat infer_instance
    show Out.ok (if true = true ∨ _ then PyData.none else _) = Out.ok PyData.none
    rw [if_pos (Or.inl rfl)]
  | false =>
  repeat infer_instance
  refine ⟨pp, ?_⟩
  rw [eM]
  refine to_ok ?_
  refine ⟨_, rfl, ?_⟩
  by_cases hM : (lsI ns).sum = 2 * wholeI q
  · rw [decide_eq_true hM, if_pos rfl]
    repeat infer_instance
    show Out.ok (if _ ∨ _ then PyData.none else _) = Out.ok PyData.none
    rw [if_pos (Or.inr hM)]
  rw [decide_eq_false hM, if_neg (by decide)]
  rw [if_neg (show ¬ (false = true ∨ (lsI ns).sum = 2 * wholeI q) from fun z => z.elim (fun z => nomatch z) hM)]
  repeat infer_instance
  repeat (with_reducible refine gs_nil ?_)
  show Gs _ _ _ _ _
  refine gs_cons ?_
  repeat infer_instance
  have u1 : 0 < wholeI q := by omega
  have r : (lsI ns).sum < 2 * wholeI q ∧ 2 * wholeI q < (bsI ns).sum := by
    unfold noneI at hN
    rw [Bool.or_eq_false_iff, decide_eq_false_iff_not, decide_eq_false_iff_not] at hN
    omega
  have gb := gap_bd hns pu r.1 r.2
  have g1 := gap_pos hns u1 r.2
  have gf : ∀ n, gapI (wholeI q) ns ≤ n → addB (wholeI q) n ns = true := fun n hn => gap_fits hns u1 r.1 r.2 hn
  have fi := from_is hns u1 r.1 r.2
  refine ⟨⟨q, ns, rfl, hq, hns, r.1, r.2⟩, ?_⟩
  rw [eG]
  refine to_ok ?_
  generalize gapI (wholeI q) ns = G at gb g1 gf ⊢
  generalize fromI (wholeI q) ns = N at fi ⊢
  repeat infer_instance
  refine ⟨fun m Γ => ∃ (b : Int) (s2 s3 : Sl), Γ = [.d (inst C (pF q ns)), .d (.int b), s2, s3] ∧ 1 ≤ b ∧ b ≤ 12001 ∧ (∀ n, b ≤ n → addB (wholeI q) n ns = true) ∧ m = b.toNat, ⟨_, G, _, _, rfl, g1, gb, gf, rfl⟩, ?_⟩
  rintro m Γ ⟨b, s2, s3, rfl, b1, b2, hb, rfl⟩
  repeat infer_instance
  by_cases hd : 1 < b
  · rw [decide_eq_true hd, if_pos rfl]
    repeat infer_instance
    have f1 : 1 ≤ (if b - 64 > 1 then b - 64 else 1) := by split <;> omega
    have f2 : (if b - 64 > 1 then b - 64 else 1) < b := by split <;> omega
    have f3 : b - (if b - 64 > 1 then b - 64 else 1) ≤ 64 := by split <;> omega
    generalize (if b - 64 > 1 then b - 64 else 1) = a at f1 f2 f3 ⊢
    have rl := rg_len a b
    refine ⟨⟨by omega, by omega, by omega, by omega⟩, rangeI a b, a, rfl, (rg_asc a b).imp (fun {x y} h => Int.ne_of_lt h), by omega, by omega, by omega, fun k hk => by have := rg_mem.mp hk; omega, ?_⟩
    repeat infer_instance
    refine ⟨⟨q, a, b, ns, rfl, hq, hns, f1, by omega, by omega⟩, ?_⟩
    rw [ft_is]
    refine to_ok ?_
    have fl := ft_len (wholeI q) a b ns
    refine ⟨fitsI (wholeI q) a b ns, rfl, by omega, fun gs so mem => ?_⟩
    repeat infer_instance
    have mem2 : ∀ k, k ∈ gs ↔ (a ≤ k ∧ k < b) ∧ addB (wholeI q) k ns = false := fun k => by
      rw [mem, rg_mem, ft_mem]
      cases addB (wholeI q) k ns <;> simp
    by_cases hg : gs = []
    · subst hg
      rw [if_neg (show ¬ (!(List.map PyData.int ([] : List Int)).isEmpty) = true from by decide)]
      repeat infer_instance
      repeat (with_reducible refine gs_nil ?_)
      show Gs _ _ _ _ _
      refine gs_cons ?_
      repeat infer_instance
      repeat (with_reducible refine gs_nil ?_)
      refine ⟨a.toNat, by omega, a, _, _, rfl, f1, by omega, fun n hn => ?_, rfl⟩
      by_cases c : b ≤ n
      · exact hb n c
      · cases z : addB (wholeI q) n ns with
        | true => rfl
        | false => exact absurd ((mem2 n).mpr ⟨⟨hn, by omega⟩, z⟩) (fun z => nomatch z)
    · obtain ⟨hs, x, rfl⟩ : ∃ hs x, gs = hs ++ [x] := ⟨gs.dropLast, gs.getLast hg, (List.dropLast_concat_getLast hg).symm⟩
      rw [if_pos (show (!(List.map PyData.int (hs ++ [x])).isEmpty) = true from by rw [List.map_append]; cases hs <;> rfl)]
      repeat infer_instance
      refine ⟨.int x, last_at hs x, ?_⟩
      repeat infer_instance
      have mx := (mem2 x).mp (List.mem_append_right _ (.head _))
      have lt : ∀ k, x < k → k < b → addB (wholeI q) k ns = true := fun k k1 k2 => by
        cases z : addB (wholeI q) k ns with
        | true => rfl
        | false =>
          have mk := (mem2 k).mpr ⟨⟨by omega, k2⟩, z⟩
          rcases List.mem_append.mp mk with m1 | m1
          · have := (List.pairwise_append.mp so).2.2 k m1 x (.head _)
            omega
          · have := List.mem_singleton.mp m1
            omega
      show Out.ok (PyData.int N) = Out.ok (PyData.int (x + 1))
      rw [from_uniq fi (N' := x + 1) ⟨by omega, fun n hn => if c : b ≤ n then hb n c else lt n (by omega) (by omega), .inr (by rw [show x + 1 - 1 = x from by omega]; exact mx.2)⟩]
  · rw [decide_eq_false hd, if_neg (by decide)]
    repeat infer_instance
    have : b = 1 := by omega
    subst this
    show Out.ok (PyData.int N) = Out.ok (PyData.int 1)
    rw [from_uniq fi ⟨Int.le_refl _, hb, .inl rfl⟩]
end
end K69
namespace K69
open PySem PySem.Spec PyProof.Rows L2 Tc Px Py
local macro_rules | `(tactic| fail "x25GE0") => `(tactic| first
  | ((with_reducible show GE _ _ (Expr.Call (Expr.Name _ _) [] [_] _) _ _); (with_reducible apply ge_callR1); (case F => with_reducible assumption); (exact ⟨rfl, rfl, rfl, rfl, rfl⟩); (first | with_reducible assumption | exact Bod.toCxt (by with_reducible assumption) | exact Cxt.blk (Bod.toCxt (by with_reducible assumption)) _ _ _ _ _ _ | exact Cxt.blk (Cxt.blk (Bod.toCxt (by with_reducible assumption)) _ _ _ _ _ _) _ _ _ _ _ _); (eq_refl); (eq_refl); (first | with_reducible assumption | exact Exc.none); rotate_left; (decide); (eq_refl); (eq_refl); (eq_refl); (eq_refl))
  )
local macro_rules | `(tactic| fail "x25GE") => `(tactic| first
  | ((with_reducible show GE _ _ (Expr.BinOp (Expr.List _ _) Operator.Mult _ _) _ _); (with_reducible refine ge_ofF ?_); (with_reducible refine gf_repZ ?_))
  | ((with_reducible show GE _ _ (Expr.Call (Expr.Name _ _) [] [_] _) _ _); fail "x25GE0")
  | ((with_reducible show GE _ _ (Expr.BinOp (Expr.List _ _) Operator.Mult _ _) _ _); (with_reducible refine ge_ofF ?_); (with_reducible refine gf_repZ ?_))
  )
local macro_rules | `(tactic| fail "x25G11") => `(tactic| first
  | ((with_reducible show G1 _ _ (Stmt.Assign [Expr.Tuple [Expr.Name _ _, Expr.Name _ _] _ _] (Expr.Tuple [Expr.BinOp (Expr.List _ _) Operator.Mult _ _, _] _ _) _) _ _); (with_reducible apply par_on); (with_reducible assumption); (assumption); (eq_refl); (eq_refl); (eq_refl); (eq_refl); (eq_refl); (eq_refl); (eq_refl); (eq_refl); (exact star_cons rfl); (exact star_cons rfl))
  )
local macro_rules | `(tactic| fail "x25G12") => `(tactic| first
  | ((with_reducible show G1 _ _ (Stmt.Assign [Expr.Tuple [Expr.Name _ _, Expr.Name _ _, Expr.Name _ _] _ _] (Expr.Tuple [_, _, _] _ _) _) _ _); (with_reducible apply par_n3); (with_reducible assumption); (assumption); (eq_refl); (eq_refl); (eq_refl); (eq_refl); (eq_refl); (eq_refl); (eq_refl); (eq_refl); (eq_refl); (eq_refl); (eq_refl); (eq_refl))
  )
local macro_rules | `(tactic| fail "x25G13") => `(tactic| first
  | ((with_reducible show G1 _ _ (Stmt.Assign [Expr.Tuple [Expr.Name _ _, Expr.Name _ _] _ _] (Expr.Tuple [Expr.List _ _, _] _ _) _) _ _); (with_reducible apply par_on); (with_reducible assumption); (assumption); (eq_refl); (eq_refl); (eq_refl); (eq_refl); (eq_refl); (eq_refl); (eq_refl); (eq_refl); (exact star_cons rfl); (exact star_cons rfl))
  )
local macro_rules | `(tactic| fail "x25G1") => `(tactic| first
  | ((with_reducible show G1 _ _ (Stmt.Assign [Expr.Tuple [Expr.Name _ _, Expr.Name _ _] _ _] (Expr.Tuple [Expr.BinOp (Expr.List _ _) Operator.Mult _ _, _] _ _) _) _ _); fail "x25G11")
  | ((with_reducible show G1 _ _ (Stmt.Assign [Expr.Tuple [Expr.Name _ _, Expr.Name _ _, Expr.Name _ _] _ _] (Expr.Tuple [_, _, _] _ _) _) _ _); fail "x25G12")
  | ((with_reducible show G1 _ _ (Stmt.Assign [Expr.Tuple [Expr.Name _ _, Expr.Name _ _] _ _] (Expr.Tuple [Expr.List _ _, _] _ _) _) _ _); fail "x25G13")
  )
local macro_rules | `(tactic| fail "x25GQ") => `(tactic| first
  | ((with_reducible show GQ _ _ false (Expr.Name _ _) _ _); (with_reducible refine gq_of ?_))
  | ((with_reducible show GQ _ _ false (Expr.Call _ _ _ _) _ _); (with_reducible refine gq_of ?_))
  | ((with_reducible show GQ _ _ true (Expr.IfExp _ _ _ _) _ _); (with_reducible refine gq_of ?_))
  )
local macro_rules | `(tactic| infer_instance) => `(tactic| first
  | ((with_reducible show GE _ _ _ _ _); fail "x25GE")
  | ((with_reducible show G1 _ _ _ _ _); fail "x25G1")
  | ((with_reducible show GQ _ _ _ _ _ _); fail "x25GQ")
  | ((with_reducible show ∃ d1 d2 d3, _ = [d1, d2, d3] ∧ _); refine ⟨_, _, _, rfl, rfl, rfl, rfl, ?_⟩)
  | ((with_reducible show ∀ B0 : Bas, GE B0 _ _ _ _); intro _)
  | ((with_reducible show ∃ ds0, _ = (if false = true then PyData.list ds0 else PyData.tuple ds0) ∧ _); refine ⟨_, rfl, ?_⟩)
  )
section
variable {P : Program} {w : World} {K : PySem.W.Frag} {mg : Str → Option Value} {base : Heap}
theorem sc_lshares : FnScope ["_law_well_here", "_law_unit", "_law_many", "_law_way", "_law_at", "_law_some", "_law_found", "_law_people", "_law_turn", "_law_own"] ["_law_well_here", "_law_unit", "_law_many"] (defScope s_lshares) := ⟨rfl, rfl, rfl, by decide +kernel, rfl, by decide +kernel, by decide +kernel⟩
def preSh (ps ds : List PyData) : Prop := Well ps ∧ ∃ u m : Int, ds = [.int u, .int m] ∧ unit u ∧ 2 ≤ m ∧ m ≤ 6
def RSh (_ ds : List PyData) (o : Out) (ps' : List PyData) : Prop := Well ps' ∧ ∃ (u m : Int) (ns : List Int), ds = [.int u, .int m] ∧ o = .ok (.tuple (intsD ns)) ∧ Shs u ns
def mxz (a : Int) : Int := if a > 0 then a else 0
theorem Shs.put {u v : Int} {ns : List Int} {k : Nat} (h : Shs u ns) (h0 : 0 ≤ v) (h1 : v ≤ u) : Shs u (ns.set k v) := by
  refine ⟨by rw [List.length_set]; exact h.two, by rw [List.length_set]; exact h.six, fun n hn => ?_⟩
  rcases List.mem_or_eq_of_mem_set hn with hn | rfl
  · exact h.ok n hn
  · exact ⟨h0, h1⟩
theorem mem_sum : ∀ {ns : List Int}, (∀ n ∈ ns, 0 ≤ n) → ∀ {x : Int}, x ∈ ns → x ≤ ns.sum
  | n :: ns, h, x, hx => by
    have h0 := h n (.head _)
    have hs : ∀ (l : List Int), (∀ n ∈ l, 0 ≤ n) → 0 ≤ l.sum := fun l => by
      induction l with
      | nil => exact fun _ => Int.le_refl _
      | cons a l ih =>
        intro q
        have := ih fun n m => q n (.tail _ m)
        have := q a (.head _)
        rw [List.sum_cons]
        omega
    rw [List.sum_cons]
    rcases List.mem_cons.mp hx with rfl | hx
    · have := hs ns fun n m => h n (.tail _ m)
      omega
    · have := mem_sum (ns := ns) (fun n m => h n (.tail _ m)) hx
      omega
theorem ok_shares (F1 : Call P w K mg base (L2.CX P w) 1 "_law_draw" ["_law_well_here", "_law_top"] (spP 1 preDraw RDraw)) (F2 : Call P w K mg base (L2.CX P w) 2 "_law_dealt" ["_law_well_here", "_law_many", "_law_people"] (spP 2 preDe RDe)) (F3 : Call P w K mg base (L2.CX P w) 1 "_law_near" ["_law_unit", "_law_one", "_law_people"] (spF 3 preNear fun ds => .ok (nearLD ds))) {f : Addr} {fd : FuncData} (F : Fun K "_law_shares" "_law_shares" s_lshares f fd) (sm : ∃ o, K.lookup sysModules = some o) (B : Gls mg) :
    FnG P w K mg base (L2.CX P w) 3 f fd ["_law_well_here", "_law_unit", "_law_many"] (spP 2 preSh RSh) := by
  refine fn_pail F sc_lshares sm rfl _ _ fun cdv A outer s H E Bs ad ms ds hl hp c ex => ?_
  obtain ⟨hw, u, m, rfl, hu, m2, m6⟩ := hp
  have hu2 : 100 ≤ u ∧ u ≤ 1000 := by rcases hu with rfl | rfl <;> decide
  have nd := sc_lshares.nd
  refine gs_cons ?_
  repeat infer_instance
  refine ⟨⟨hw, _, rfl, by first | decide | omega, by first | decide | omega⟩, fun o ms1 hR => ?_⟩
  clear hw
  obtain ⟨hw, way, top, e, rfl, way0, way1⟩ := hR
  cases e
  refine to_ok ?_
  repeat infer_instance
  refine ⟨⟨hw, _, rfl, by first | decide | omega, by first | decide | omega⟩, fun o ms1 hR => ?_⟩
  clear hw
  obtain ⟨hw, pl, top, e, rfl, pl0, pl1⟩ := hR
  cases e
  refine to_ok ?_
  repeat infer_instance
  rw [eqv_int]
  generalize hw0 : decide (way = 0) = t
  cases t
  case true =>
    repeat infer_instance
    (with_reducible apply gf_lcS)
    (eq_refl)
    (assumption)
    (eq_refl)
    (eq_refl)
    (eq_refl)
    (intro _; eq_refl)
    repeat infer_instance
    refine ⟨by omega, by omega, fun (i : Nat) (acc : List PyData) (Γ : List Sl) => ∃ (m2 : List PyData) (xs : List Int), Γ = [.own ad m2, .d (.int u), .d (.int m), .d (.int way), .d (.int pl), .no, .no, .no, .no, .no] ∧ Well m2 ∧ acc = intsD xs ∧ xs.length = i ∧ ∀ x ∈ xs, 0 ≤ x ∧ x ≤ u, ⟨_, [], rfl, hw, rfl, rfl, fun _ h => nomatch h⟩, fun _ _ _ _ _ => trivial, ?_, ?_⟩
    · clear hw
      rintro i acc Γ hi ⟨m2, xs, rfl, hw, rfl, hl, ha⟩ B'
      have hi : i < m.toNat := hi
      repeat infer_instance
      refine ⟨⟨hw, _, rfl, by first | decide | omega, by first | decide | omega⟩, fun o ms1 hR => ?_⟩
      clear hw
      obtain ⟨hw, v, top, e, rfl, v0, v1⟩ := hR
      cases e
      refine to_ok ?_
      repeat infer_instance
      refine ⟨by rw [List.length_map, hl]; exact Nat.lt_of_lt_of_le hi (Nat.le_trans (show m.toNat ≤ 6 by omega) (by decide)), ?_⟩
      refine ⟨ms1, xs ++ [v], rfl, hw, by unfold intsD; rw [List.map_append] <;> rfl, by rw [List.length_append, hl] <;> rfl, fun x hx => ?_⟩
      rcases List.mem_append.mp hx with hx | hx
      · exact ha x hx
      · rw [List.mem_singleton.mp hx]
        omega
    · clear hw
      rintro acc Γ ⟨m2, xs, rfl, hw, rfl, hl, ha⟩
      repeat infer_instance
      exact ⟨hw, u, m, xs, rfl, rfl, by omega, by omega, ha⟩
  have hw0 := of_decide_eq_false hw0
  repeat infer_instance
  repeat (with_reducible refine gs_nil ?_)
  show Gs _ _ _ _ _
  refine gs_cons ?_
  repeat infer_instance
  generalize hw3 : decide (way < 3) = t
  cases t
  case true =>
    repeat infer_instance
    by_cases c3 : 3 < m
    · rw [decide_eq_true c3, if_pos rfl]
      repeat infer_instance
      rw [eqv_int]
      by_cases cu : u = 100
      · rw [decide_eq_true cu, if_pos rfl]
        repeat infer_instance
        ((with_reducible apply set_ld); (assumption); (assumption); (eq_refl); (eq_refl); (eq_refl); (eq_refl); (eq_refl); (eq_refl); (intro _; eq_refl))
        repeat infer_instance
        refine ⟨⟨hw, 4, _, rfl, by omega, by omega, by omega, by omega⟩, fun o ms1 hR => ?_⟩
        clear hw
        obtain ⟨hw, m', p', ns, e, rfl, hl2, hn, hs⟩ := hR
        cases e
        refine to_ok ?_
        repeat infer_instance
        refine ⟨Nat.le_trans (show (intsD ns).length ≤ 1000 by rw [List.length_map]; omega) (by decide), fun _ => true, fun i => .int (1 + asI (nth (intsD ns) i)), fun i hi B' => ?_, ?_⟩
        · have hi : i < ns.length := by rw [List.length_map] at hi; exact hi
          have eN := nth_int hi
          generalize ns[i] = x at eN
          rw [eN]
          repeat infer_instance
          exact ⟨by show PyData.int (1 + x) = .int (1 + asI (nth (intsD ns) i)); rw [eN] <;> rfl, rfl⟩
        rw [fil_ints fun n => 1 + n]
        have mS : ∀ n ∈ ns.map (fun n => 1 + n), 0 ≤ n ∧ n ≤ u := fun n hn2 => by
          obtain ⟨x, hx, rfl⟩ := List.mem_map.mp hn2
          have := hn x hx
          have := mem_sum hn hx
          omega
        have lS : ((ns.map (fun n => 1 + n)).length : Int) = 4 := by rw [List.length_map]; exact hl2
        generalize ns.map (fun n => 1 + n) = ks at mS lS ⊢
        repeat infer_instance
        rw [eqv_int]
        by_cases cw : way = 1
        · rw [decide_eq_true cw, if_pos rfl]
          repeat infer_instance
          refine ⟨⟨by omega, by omega⟩, Nat.le_trans (show 1 * (m - 4).toNat ≤ 6 by omega) (by decide), ?_⟩
          rw [rep_ints, show List.replicate (m - 4).toNat (PyData.int 0) = intsD (List.replicate (m - 4).toNat 0) from by unfold intsD; rw [List.map_replicate]]
          repeat infer_instance
          have lR : (List.replicate (m - 4).toNat (0 : Int) ++ ks).length = (m - 4).toNat + ks.length := by rw [List.length_append, List.length_replicate]
          refine add_ll (Nat.le_trans (m := 100) (by rw [List.length_map, List.length_map, List.length_replicate]; omega) (by decide)) ?_
          repeat infer_instance
          refine ⟨hw, u, m, List.replicate (m - 4).toNat 0 ++ ks, rfl, by unfold intsD; rw [List.map_append], by omega, by omega, fun n hn => ?_⟩
          rcases List.mem_append.mp hn with hn | hn
          · rw [(List.mem_replicate.mp hn).2]
            omega
          · exact mS n hn
        · rw [decide_eq_false cw, if_neg (by decide)]
          repeat infer_instance
          exact ⟨hw, u, m, ks, rfl, rfl, by omega, by omega, mS⟩
      · rw [decide_eq_false cu, if_neg (by decide)]
        repeat infer_instance
        ((with_reducible apply set_ld); (assumption); (assumption); (eq_refl); (eq_refl); (eq_refl); (eq_refl); (eq_refl); (eq_refl); (intro _; eq_refl))
        repeat infer_instance
        refine ⟨⟨hw, 2, _, rfl, by omega, by omega, by omega, by omega⟩, fun o ms1 hR => ?_⟩
        clear hw
        obtain ⟨hw, m', p', ns, e, rfl, hl2, hn, hs⟩ := hR
        cases e
        refine to_ok ?_
        repeat infer_instance
        refine ⟨Nat.le_trans (show (intsD ns).length ≤ 1000 by rw [List.length_map]; omega) (by decide), fun _ => true, fun i => .int (1 + asI (nth (intsD ns) i)), fun i hi B' => ?_, ?_⟩
        · have hi : i < ns.length := by rw [List.length_map] at hi; exact hi
          have eN := nth_int hi
          generalize ns[i] = x at eN
          rw [eN]
          repeat infer_instance
          exact ⟨by show PyData.int (1 + x) = .int (1 + asI (nth (intsD ns) i)); rw [eN] <;> rfl, rfl⟩
        rw [fil_ints fun n => 1 + n]
        have mS : ∀ n ∈ ns.map (fun n => 1 + n), 0 ≤ n ∧ n ≤ u := fun n hn2 => by
          obtain ⟨x, hx, rfl⟩ := List.mem_map.mp hn2
          have := hn x hx
          have := mem_sum hn hx
          omega
        have lS : ((ns.map (fun n => 1 + n)).length : Int) = 2 := by rw [List.length_map]; exact hl2
        generalize ns.map (fun n => 1 + n) = ks at mS lS ⊢
        repeat infer_instance
        rw [eqv_int]
        by_cases cw : way = 1
        · rw [decide_eq_true cw, if_pos rfl]
          repeat infer_instance
          refine ⟨⟨by omega, by omega⟩, Nat.le_trans (show 1 * (m - 2).toNat ≤ 6 by omega) (by decide), ?_⟩
          rw [rep_ints, show List.replicate (m - 2).toNat (PyData.int 0) = intsD (List.replicate (m - 2).toNat 0) from by unfold intsD; rw [List.map_replicate]]
          repeat infer_instance
          have lR : (List.replicate (m - 2).toNat (0 : Int) ++ ks).length = (m - 2).toNat + ks.length := by rw [List.length_append, List.length_replicate]
          refine add_ll (Nat.le_trans (m := 100) (by rw [List.length_map, List.length_map, List.length_replicate]; omega) (by decide)) ?_
          repeat infer_instance
          refine ⟨hw, u, m, List.replicate (m - 2).toNat 0 ++ ks, rfl, by unfold intsD; rw [List.map_append], by omega, by omega, fun n hn => ?_⟩
          rcases List.mem_append.mp hn with hn | hn
          · rw [(List.mem_replicate.mp hn).2]
            omega
          · exact mS n hn
        · rw [decide_eq_false cw, if_neg (by decide)]
          repeat infer_instance
          exact ⟨hw, u, m, ks, rfl, rfl, by omega, by omega, mS⟩
    · rw [decide_eq_false c3, if_neg (by decide)]
      repeat infer_instance
      ((with_reducible apply set_ld); (assumption); (assumption); (eq_refl); (eq_refl); (eq_refl); (eq_refl); (eq_refl); (eq_refl); (intro _; eq_refl))
      repeat infer_instance
      refine ⟨⟨hw, 2, _, rfl, by omega, by omega, by omega, by omega⟩, fun o ms1 hR => ?_⟩
      clear hw
      obtain ⟨hw, m', p', ns, e, rfl, hl2, hn, hs⟩ := hR
      cases e
      refine to_ok ?_
      repeat infer_instance
      refine ⟨Nat.le_trans (show (intsD ns).length ≤ 1000 by rw [List.length_map]; omega) (by decide), fun _ => true, fun i => .int (1 + asI (nth (intsD ns) i)), fun i hi B' => ?_, ?_⟩
      · have hi : i < ns.length := by rw [List.length_map] at hi; exact hi
        have eN := nth_int hi
        generalize ns[i] = x at eN
        rw [eN]
        repeat infer_instance
        exact ⟨by show PyData.int (1 + x) = .int (1 + asI (nth (intsD ns) i)); rw [eN] <;> rfl, rfl⟩
      rw [fil_ints fun n => 1 + n]
      have mS : ∀ n ∈ ns.map (fun n => 1 + n), 0 ≤ n ∧ n ≤ u := fun n hn2 => by
        obtain ⟨x, hx, rfl⟩ := List.mem_map.mp hn2
        have := hn x hx
        have := mem_sum hn hx
        omega
      have lS : ((ns.map (fun n => 1 + n)).length : Int) = 2 := by rw [List.length_map]; exact hl2
      generalize ns.map (fun n => 1 + n) = ks at mS lS ⊢
      repeat infer_instance
      rw [eqv_int]
      by_cases cw : way = 1
      · rw [decide_eq_true cw, if_pos rfl]
        repeat infer_instance
        refine ⟨⟨by omega, by omega⟩, Nat.le_trans (show 1 * (m - 2).toNat ≤ 6 by omega) (by decide), ?_⟩
        rw [rep_ints, show List.replicate (m - 2).toNat (PyData.int 0) = intsD (List.replicate (m - 2).toNat 0) from by unfold intsD; rw [List.map_replicate]]
        repeat infer_instance
        have lR : (List.replicate (m - 2).toNat (0 : Int) ++ ks).length = (m - 2).toNat + ks.length := by rw [List.length_append, List.length_replicate]
        refine add_ll (Nat.le_trans (m := 100) (by rw [List.length_map, List.length_map, List.length_replicate]; omega) (by decide)) ?_
        repeat infer_instance
        refine ⟨hw, u, m, List.replicate (m - 2).toNat 0 ++ ks, rfl, by unfold intsD; rw [List.map_append], by omega, by omega, fun n hn => ?_⟩
        rcases List.mem_append.mp hn with hn | hn
        · rw [(List.mem_replicate.mp hn).2]
          omega
        · exact mS n hn
      · rw [decide_eq_false cw, if_neg (by decide)]
        repeat infer_instance
        exact ⟨hw, u, m, ks, rfl, rfl, by omega, by omega, mS⟩
  have hw3 := of_decide_eq_false hw3
  repeat infer_instance
  repeat (with_reducible refine gs_nil ?_)
  show Gs _ _ _ _ _
  refine gs_cons ?_
  repeat infer_instance
  refine ⟨⟨hw, _, rfl, by first | decide | omega, by first | decide | omega⟩, fun o ms1 hR => ?_⟩
  clear hw
  obtain ⟨hw, pe, top, e, rfl, pe0, pe1⟩ := hR
  cases e
  refine to_ok ?_
  repeat infer_instance
  ((with_reducible apply set_lk); (assumption); (assumption); (eq_refl); (eq_refl); (eq_refl); (eq_refl); (eq_refl); (eq_refl); (intro _; eq_refl))
  repeat infer_instance
  refine ⟨⟨hw, m, _, rfl, m2, m6, by omega, by omega⟩, fun o ms1 hR => ?_⟩
  clear hw
  obtain ⟨hw, m', p', ns, e, rfl, hl2, hn, hs⟩ := hR
  cases e
  refine to_ok ?_
  repeat infer_instance
  refine ⟨Nat.le_trans (show (intsD ns).length ≤ 1000 by rw [List.length_map]; omega) (by decide), fun _ => true, fun i => .int (nearI (u * asI (nth (intsD ns) i)) (1 + pe)), fun i hi B' => ?_, ?_⟩
  · have hi : i < ns.length := by rw [List.length_map] at hi; exact hi
    have eN := nth_int hi
    generalize ns[i] = x at eN
    rw [eN]
    intro _ _ _ _ _
    repeat infer_instance
    refine ⟨⟨_, _, _, rfl, hu, by omega, Int.lt_of_le_of_lt (show 1 + pe ≤ 31 by omega) (by decide)⟩, ?_⟩
    show (Out.ok (.int (nearI (u * x) (1 + pe)))).to _ _
    refine to_ok ?_
    exact ⟨by show PyData.int (nearI (u * x) (1 + pe)) = .int (nearI (u * asI (nth (intsD ns) i)) (1 + pe)); rw [eN] <;> rfl, rfl⟩
  rw [fil_ints fun n => nearI (u * n) (1 + pe)]
  have eS : ns.map (fun n => nearI (u * n) (1 + pe)) = soL u ns := by unfold soL; rw [hs]
  rw [eS]
  have hS : Shs u (soL u ns) := so_shs (by omega) ⟨by omega, by omega, hn, by omega, by rw [hs]; exact Int.lt_of_le_of_lt (show 1 + pe ≤ 31 by omega) (by decide)⟩
  have hSl : ((soL u ns).length : Int) = m := by unfold soL; rw [List.length_map]; exact hl2
  repeat infer_instance
  rw [eqv_int]
  generalize h1 : decide (way = 3) = t
  cases t
  case true =>
    have h1 := of_decide_eq_true h1
    repeat infer_instance
    have hk : pl.toNat < (soL u ns).length := by omega
    refine ix_k pl0 (by rw [List.length_map]; omega) ?_
    rw [nth_int hk]
    have hv := hS.ok _ (List.getElem_mem hk)
    generalize (soL u ns)[pl.toNat] = x at hv ⊢
    repeat infer_instance
    refine ⟨_, _, rfl, _, rfl, ixN_k pl0 (by rw [List.length_map]; omega), ?_⟩
    repeat infer_instance
    repeat (with_reducible refine gs_nil ?_)
    show Gs _ _ _ _ _
    refine gs_cons ?_
    repeat infer_instance
    rw [eqv_int, decide_eq_false (show ¬ way = 4 by omega)]
    repeat infer_instance
    repeat (with_reducible refine gs_nil ?_)
    show Gs _ _ _ _ _
    refine gs_cons ?_
    repeat infer_instance
    exact ⟨hw, u, m, (soL u ns).set pl.toNat (mn u (x + 1)), rfl, by
      rw [show intsD ((soL u ns).set pl.toNat (mn u (x + 1))) = (intsD (soL u ns)).set pl.toNat (.int (mn u (x + 1))) from List.map_set] <;> rfl, hS.put (by unfold mn; split <;> omega) (by unfold mn; split <;> omega)⟩
  repeat infer_instance
  repeat (with_reducible refine gs_nil ?_)
  show Gs _ _ _ _ _
  refine gs_cons ?_
  repeat infer_instance
  rw [eqv_int]
  generalize h2 : decide (way = 4) = t
  cases t
  case true =>
    repeat infer_instance
    have hk : pl.toNat < (soL u ns).length := by omega
    refine ix_k pl0 (by rw [List.length_map]; omega) ?_
    rw [nth_int hk]
    have hv := hS.ok _ (List.getElem_mem hk)
    generalize (soL u ns)[pl.toNat] = x at hv ⊢
    repeat infer_instance
    refine ⟨_, _, rfl, _, rfl, ixN_k pl0 (by rw [List.length_map]; omega), ?_⟩
    repeat infer_instance
    repeat (with_reducible refine gs_nil ?_)
    show Gs _ _ _ _ _
    refine gs_cons ?_
    repeat infer_instance
    exact ⟨hw, u, m, (soL u ns).set pl.toNat (mxz (x - 1)), rfl, by
      rw [show intsD ((soL u ns).set pl.toNat (mxz (x - 1))) = (intsD (soL u ns)).set pl.toNat (.int (mxz (x - 1))) from List.map_set] <;> rfl, hS.put (by unfold mxz; split <;> omega) (by unfold mxz; split <;> omega)⟩
  repeat infer_instance
  repeat (with_reducible refine gs_nil ?_)
  show Gs _ _ _ _ _
  refine gs_cons ?_
  repeat infer_instance
  exact ⟨hw, u, m, _, rfl, rfl, hS⟩
end
end K69
namespace K69
open PySem PySem.Spec PyProof.Rows L2 Tc Px Py
/-! numbers: the counts with a share stand side by side -/
theorem near_is {u n s c : Int} (hu : 0 < u) (hn : 1 ≤ n) : nearI (u * c) n = s ↔ Pm.up (2 * u) n (2 * s - 1) ≤ c ∧ c < Pm.up (2 * u) n (2 * s + 1) := by
  have t0 : 0 < 2 * u := by omega
  have h1 : nearI (u * c) n = s ↔ s * (2 * n) ≤ 2 * (u * c) + n ∧ 2 * (u * c) + n < (s + 1) * (2 * n) := by
    unfold nearI
    constructor
    · rintro rfl
      exact ⟨Int.ediv_mul_le _ (by omega), Int.lt_ediv_add_one_mul_self _ (by omega)⟩
    · rintro ⟨a, b⟩
      have x := (Int.le_ediv_iff_mul_le (by omega)).mpr a
      have y := Int.ediv_lt_of_lt_mul (by omega) b
      omega
  have e1 : s * (2 * n) = 2 * (s * n) := by rw [Int.mul_left_comm]
  have e2 : (s + 1) * (2 * n) = 2 * (s * n) + 2 * n := by rw [Int.add_mul, Int.one_mul, e1]
  have e3 : (2 * s - 1) * n = 2 * (s * n) - n := by rw [Int.sub_mul, Int.one_mul, Int.mul_assoc]
  have e4 : (2 * s + 1) * n = 2 * (s * n) + n := by rw [Int.add_mul, Int.one_mul, Int.mul_assoc]
  have e5 : c * (2 * u) = 2 * (u * c) := by rw [Int.mul_left_comm, Int.mul_comm c]
  rw [h1]
  constructor
  · rintro ⟨a, b⟩
    exact ⟨Pm.up_le t0 (by rw [e3, e5]; omega), Pm.lt_up t0 (by rw [e4, e5]; omega)⟩
  · rintro ⟨a, b⟩
    have x := Pm.up_ge t0 a
    have y : c ≤ Pm.up (2 * u) n (2 * s + 1) - 1 := by omega
    have z := Int.mul_le_mul_of_nonneg_right y (Int.le_of_lt t0)
    have w := (Pm.up_spec t0 n (2 * s + 1)).2
    rw [e3, e5] at x
    rw [e4] at w
    rw [e5] at z
    exact ⟨by omega, by omega⟩
/-- the least and the greatest count with a share -/
def loF (u n s : Int) : Int := Pm.lo (2 * u) n s
def hiF (u n s : Int) : Int := min (Pm.hi (2 * u) n s) n
theorem near_st {u n s c : Int} (hu : 0 < u) (hn : 1 ≤ n) (hs : 0 ≤ s) (c0 : 0 ≤ c) (c1 : c ≤ n) : nearI (u * c) n = s ↔ loF u n s ≤ c ∧ c ≤ hiF u n s := by
  rw [near_is hu hn]
  unfold loF hiF Pm.lo Pm.hi
  by_cases z : 0 < s
  · rw [if_pos z]
    omega
  · obtain rfl : s = 0 := by omega
    rw [if_neg z]
    have : Pm.up (2 * u) n (2 * 0 - 1) ≤ 0 := Pm.up_le (by omega) (by omega)
    omega
def toldL (u n : Int) : List Int := (List.range (n + 1).toNat).map fun i : Nat => nearI (u * (i : Int)) n
theorem cnt_rg (k a b : Nat) (hb : b ≤ k) : (List.range k).countP (fun i => decide (a ≤ i ∧ i < b)) = b - a := by
  induction k generalizing b with
  | zero =>
    have : b = 0 := by omega
    subst this
    simp
  | succ k ih =>
    rw [List.range_succ, List.countP_append, List.countP_cons, List.countP_nil]
    by_cases c : b ≤ k
    · rw [ih b c, decide_eq_false (by omega)]
      simp
    · have : b = k + 1 := by omega
      subst this
      have e : (List.range k).countP (fun i => decide (a ≤ i ∧ i < k + 1)) = (List.range k).countP (fun i => decide (a ≤ i ∧ i < k)) := by
        refine List.countP_congr fun x hx => ?_
        have := List.mem_range.mp hx
        simp only [decide_eq_true_eq]
        omega
      rw [e, ih k (Nat.le_refl _)]
      by_cases d : a ≤ k
      · rw [decide_eq_true (by omega)]
        simp
        omega
      · rw [decide_eq_false (by omega)]
        simp
        omega
theorem told_cnt {u n s : Int} (hu : 0 < u) (hn : 1 ≤ n) (hs : 0 ≤ s) : (((toldL u n).count s : Nat) : Int) = if loF u n s ≤ hiF u n s then hiF u n s - loF u n s + 1 else 0 := by
  have l0 : 0 ≤ loF u n s := Pm.lo_nn hu hn
  have h1 : hiF u n s ≤ n := by unfold hiF; omega
  have e : (toldL u n).count s = (List.range (n + 1).toNat).countP (fun i => decide ((loF u n s).toNat ≤ i ∧ i < (hiF u n s + 1).toNat)) := by
    unfold toldL
    rw [List.count_eq_countP, List.countP_map]
    refine List.countP_congr fun i hi => ?_
    have hi := List.mem_range.mp hi
    have := near_st (c := (i : Int)) hu hn hs (by omega) (by omega)
    simp only [Function.comp_apply, beq_iff_eq, decide_eq_true_eq]
    rw [this]
    omega
  rw [e, cnt_rg _ _ _ (by omega)]
  split <;> omega
theorem told_idx {u n s : Int} (hu : 0 < u) (hn : 1 ≤ n) (hs : 0 ≤ s) (h : loF u n s ≤ hiF u n s) : (toldL u n)[(loF u n s).toNat]? = some s ∧ ∀ m z, m < (loF u n s).toNat → (toldL u n)[m]? = some z → z ≠ s := by
  have l0 : 0 ≤ loF u n s := Pm.lo_nn hu hn
  have h1 : hiF u n s ≤ n := by unfold hiF; omega
  constructor
  · unfold toldL
    rw [List.getElem?_map, List.getElem?_range (by omega)]
    refine congrArg some ?_
    exact (near_st hu hn hs (by omega) (by omega)).mpr (by omega)
  · intro m z hm hz e
    subst e
    unfold toldL at hz
    rw [List.getElem?_map, List.getElem?_range (by omega)] at hz
    have := (near_st (c := (m : Int)) hu hn hs (by omega) (by omega)).mp (Option.some.inj hz)
    omega
def loSum (u n : Int) (ns : List Int) : Int := Pm.sm (loF u n) ns
def hiSum (u n : Int) (ns : List Int) : Int := Pm.sm (hiF u n) ns
theorem add_all {u n : Int} {ns : List Int} (h : Shs u ns) (hu : 0 < u) (hn : 1 ≤ n) (ok : ∀ s ∈ ns, loF u n s ≤ hiF u n s) : addB u n ns = (decide (loSum u n ns ≤ n) && decide (n ≤ hiSum u n ns)) := by
  have sh : Pm.Sh u ns := ⟨hu, fun s hs => (h.ok s hs).1, fun s hs => (h.ok s hs).2⟩
  have fa := Pm.fits_adds sh hn
  have e : addB u n ns = true ↔ (decide (loSum u n ns ≤ n) && decide (n ≤ hiSum u n ns)) = true := by
    rw [add_is, ← fa, Bool.and_eq_true, decide_eq_true_eq, decide_eq_true_eq]
    exact ⟨fun z => z.2, fun z => ⟨ok, z⟩⟩
  exact Bool.eq_iff_iff.mpr e
theorem add_one {u n s : Int} {ns : List Int} (h : Shs u ns) (hu : 0 < u) (hn : 1 ≤ n) (hs : s ∈ ns) (bad : hiF u n s < loF u n s) : addB u n ns = false := by
  have sh : Pm.Sh u ns := ⟨hu, fun s hs => (h.ok s hs).1, fun s hs => (h.ok s hs).2⟩
  cases q : addB u n ns with
  | false => rfl
  | true =>
    have := ((Pm.fits_adds sh hn).mpr (add_is.mp q)).1 s hs
    unfold hiF loF at bad
    omega
theorem sm_snoc (f : Int → Int) (l : List Int) (x : Int) : Pm.sm f (l ++ [x]) = Pm.sm f l + f x := by
  unfold Pm.sm
  rw [List.map_append, List.sum_append]
  simp
end K69
namespace K69
open PySem PySem.Spec PyProof.Rows L2 Tc Px Py
local macro_rules | `(tactic| fail "x27GE0") => `(tactic| first
  | ((with_reducible show GE _ _ (Expr.Call (Expr.Attribute _ "count" _) [_] _ _) _ _); (with_reducible refine ge_lcountI ?_ ?_ ?_ ?_ ?_); rotate_left; (eq_refl); (eq_refl); (eq_refl); (exact star_cons rfl))
  )
local macro_rules | `(tactic| fail "x27GE1") => `(tactic| first
  | ((with_reducible show GE _ _ (Expr.Call (Expr.Attribute _ "index" _) [_] _ _) _ _); (with_reducible refine ge_lindexI ?_ ?_ ?_ ?_ ?_); rotate_left; (eq_refl); (eq_refl); (eq_refl); (exact star_cons rfl))
  )
local macro_rules | `(tactic| fail "x27GE2") => `(tactic| first
  | ((with_reducible show GE _ _ (Expr.Call (Expr.Name _ _) [] [_] _) _ _); (with_reducible apply ge_callR1); (case F => with_reducible assumption); (exact ⟨rfl, rfl, rfl, rfl, rfl⟩); (first | with_reducible assumption | exact Bod.toCxt (by with_reducible assumption) | exact Cxt.blk (Bod.toCxt (by with_reducible assumption)) _ _ _ _ _ _ | exact Cxt.blk (Cxt.blk (Bod.toCxt (by with_reducible assumption)) _ _ _ _ _ _) _ _ _ _ _ _); (eq_refl); (eq_refl); (first | with_reducible assumption | exact Exc.none); rotate_left; (decide); (eq_refl); (eq_refl); (eq_refl); (eq_refl))
  )
local macro_rules | `(tactic| fail "x27GE") => `(tactic| first
  | ((with_reducible show GE _ _ (Expr.Call (Expr.Attribute _ "count" _) [_] _ _) _ _); fail "x27GE0")
  | ((with_reducible show GE _ _ (Expr.Call (Expr.Attribute _ "index" _) [_] _ _) _ _); fail "x27GE1")
  | ((with_reducible show GE _ _ (Expr.Call (Expr.Name _ _) [] [_] _) _ _); fail "x27GE2")
  )
local macro_rules | `(tactic| fail "x27G13") => `(tactic| first
  | ((with_reducible show G1 _ _ (Stmt.Assign [Expr.Tuple [Expr.Name _ _, Expr.Name _ _] _ _] (Expr.Tuple [Expr.BinOp (Expr.List _ _) Operator.Mult _ _, _] _ _) _) _ _); (with_reducible apply par_on); (with_reducible assumption); (assumption); (eq_refl); (eq_refl); (eq_refl); (eq_refl); (eq_refl); (eq_refl); (eq_refl); (eq_refl); (exact star_cons rfl); (exact star_cons rfl))
  )
local macro_rules | `(tactic| fail "x27G14") => `(tactic| first
  | ((with_reducible show G1 _ _ (Stmt.Assign [Expr.Tuple [Expr.Name _ _, Expr.Name _ _, Expr.Name _ _] _ _] (Expr.Tuple [_, _, _] _ _) _) _ _); (with_reducible apply par_n3); (with_reducible assumption); (assumption); (eq_refl); (eq_refl); (eq_refl); (eq_refl); (eq_refl); (eq_refl); (eq_refl); (eq_refl); (eq_refl); (eq_refl); (eq_refl); (eq_refl))
  )
local macro_rules | `(tactic| infer_instance) => `(tactic| first
  | ((with_reducible show GE _ _ _ _ _); fail "x27GE")
  | ((with_reducible show G1 _ _ (Stmt.Assign [Expr.Tuple [Expr.Name _ _, Expr.Name _ _] _ _] (Expr.Tuple [Expr.BinOp (Expr.List _ _) Operator.Mult _ _, _] _ _) _) _ _); fail "x27G13")
  | ((with_reducible show G1 _ _ (Stmt.Assign [Expr.Tuple [Expr.Name _ _, Expr.Name _ _, Expr.Name _ _] _ _] (Expr.Tuple [_, _, _] _ _) _) _ _); fail "x27G14")
  | ((with_reducible show GQ _ _ false (Expr.Name _ _) _ _); (with_reducible refine gq_of ?_))
  | ((with_reducible show ∃ d1 d2 d3, _ = [d1, d2, d3] ∧ _); refine ⟨_, _, _, rfl, rfl, rfl, rfl, ?_⟩)
  | ((with_reducible show ∀ B0 : Bas, GE B0 _ _ _ _); intro _)
  | ((with_reducible show ∃ ds0, _ = (if false = true then PyData.list ds0 else PyData.tuple ds0) ∧ _); refine ⟨_, rfl, ?_⟩)
  )
section
variable {P : Program} {w : World} {K : PySem.W.Frag} {mg : Str → Option Value} {base : Heap}
theorem sc_ltried : FnScope ["_law_unit", "_law_shares_here", "_law_people", "_law_told", "_law_least_here", "_law_most", "_law_share", "_law_many", "_law_low", "_law_one"] ["_law_unit", "_law_shares_here", "_law_people"] (defScope s_ltried) := ⟨rfl, rfl, rfl, by decide +kernel, rfl, by decide +kernel, by decide +kernel⟩
def preTr (ds : List PyData) : Prop := ∃ (u n : Int) (ns : List Int), ds = [.int u, .tuple (intsD ns), .int n] ∧ unit u ∧ Shs u ns ∧ 1 ≤ n ∧ n ≤ 20000
def trD : List PyData → PyData
  | [.int u, .tuple xs, .int n] => .bool (addB u n (asIs xs))
  | _ => .none
theorem ok_tried (FNr : Call P w K mg base (L2.CX P w) 1 "_law_near" ["_law_unit", "_law_one", "_law_people"] (spF 3 preNear fun ds => .ok (nearLD ds))) {f : Addr} {fd : FuncData} (F : Fun K "_law_tried" "_law_tried" s_ltried f fd) (sm : ∃ o, K.lookup sysModules = some o) (B : Gls mg) :
    FnG P w K mg base (L2.CX P w) 2 f fd ["_law_unit", "_law_shares_here", "_law_people"] (spF 3 preTr fun ds => .ok (trD ds)) := by
  refine fn_data F sc_ltried sm (by decide) _ _ fun cdv A outer s H E Bs ds hl hp c ex => ?_
  obtain ⟨u, n, ns, rfl, hu, hns, n1, n2⟩ := hp
  have hu2 : 100 ≤ u ∧ u ≤ 1000 := by rcases hu with rfl | rfl <;> decide
  have nd := sc_ltried.nd
  rw [show trD [.int u, .tuple (intsD ns), .int n] = .bool (addB u n ns) from by
    show PyData.bool (addB u n (asIs (intsD ns))) = _
    rw [asIs_ints]]
  refine gs_cons ?_
  repeat infer_instance
  ((with_reducible apply gf_lk); (eq_refl); (assumption); (eq_refl); (eq_refl); (eq_refl); (intro _; eq_refl))
  repeat infer_instance
  refine ⟨by omega, by omega, trivial, Nat.le_trans (show (n + 1).toNat ≤ 20001 by omega) (by decide), fun _ => true, fun i => .int (nearI (u * (i : Int)) n), fun i hi B' => ?_, ?_⟩
  · repeat infer_instance
    refine ⟨⟨_, _, _, rfl, hu, by omega, Int.lt_of_le_of_lt n2 (by decide)⟩, ?_⟩
    show (Out.ok (.int (nearI (u * (0 + (i : Int))) n))).to _ _
    refine to_ok ?_
    exact ⟨by rw [Int.zero_add], rfl⟩
  rw [show ((List.range (n + 1).toNat).filter fun _ => true).map (fun i : Nat => PyData.int (nearI (u * (i : Int)) n)) = intsD (toldL u n) from by
    unfold toldL intsD
    rw [List.filter_eq_self.mpr (fun _ _ => rfl), List.map_map] <;> rfl]
  repeat infer_instance
  have u1 : 0 < u := by omega
  refine ⟨fun i Γ => ∃ s6 s7 s8 s9, Γ = [.d (.int u), .d (.tuple (intsD ns)), .d (.int n), .d (.list (intsD (toldL u n))), .d (.int (loSum u n (ns.take i))), .d (.int (hiSum u n (ns.take i))), s6, s7, s8, s9] ∧ ∀ s ∈ ns.take i, loF u n s ≤ hiF u n s, ⟨_, _, _, _, rfl, fun _ h => nomatch h⟩, fun _ _ _ _ => trivial, ?_, ?_⟩
  · rintro i Γ hi ⟨s6, s7, s8, s9, rfl, hok⟩
    have hi : i < ns.length := by rw [List.length_map] at hi; exact hi
    have hm := List.getElem_mem hi
    have ho := hns.ok _ hm
    have htk : ns.take (i + 1) = ns.take i ++ [ns[i]] := List.take_succ_eq_append_getElem hi
    rw [nth_int hi]
    generalize ns[i] = s at ho hm htk ⊢
    have cn := told_cnt (s := s) u1 n1 ho.1
    have l0 : 0 ≤ loF u n s := Pm.lo_nn u1 n1
    repeat infer_instance
    rw [cn]
    by_cases hb : loF u n s ≤ hiF u n s
    · rw [if_pos hb]
      rw [eqv_int, decide_eq_false (show ¬ hiF u n s - loF u n s + 1 = 0 by omega), if_neg (by decide)]
      repeat infer_instance
      repeat (with_reducible refine gs_nil ?_)
      show Gs _ _ _ _ _
      refine gs_cons ?_
      repeat infer_instance
      obtain ⟨ix, im⟩ := told_idx u1 n1 ho.1 hb
      refine ⟨s, (loF u n s).toNat, rfl, ix, im, ?_⟩
      rw [show (((loF u n s).toNat : Nat) : Int) = loF u n s from by omega]
      repeat infer_instance
      repeat (with_reducible refine gs_nil ?_)
      have e1 : loSum u n (ns.take (i + 1)) = loSum u n (ns.take i) + loF u n s := by
        rw [htk]
        exact sm_snoc _ _ _
      have e2 : hiSum u n (ns.take (i + 1)) = hiSum u n (ns.take i) + loF u n s + (hiF u n s - loF u n s + 1) - 1 := by
        have : hiSum u n (ns.take i ++ [s]) = hiSum u n (ns.take i) + hiF u n s := sm_snoc _ _ _
        rw [htk, this]
        omega
      show ∃ s6 s7 s8 s9, _ = [Sl.d (.int u), .d (.tuple (intsD ns)), .d (.int n), .d (.list (intsD (toldL u n))), .d (.int (loSum u n (ns.take (i + 1)))), .d (.int (hiSum u n (ns.take (i + 1)))), s6, s7, s8, s9] ∧ ∀ s ∈ ns.take (i + 1), loF u n s ≤ hiF u n s
      rw [e1, e2]
      refine ⟨_, _, _, _, rfl, fun x hx => ?_⟩
      rw [htk] at hx
      rcases List.mem_append.mp hx with hx | hx
      · exact hok x hx
      · rw [List.mem_singleton.mp hx]
        exact hb
    · rw [if_neg hb]
      rw [eqv_int, decide_eq_true rfl, if_pos rfl]
      repeat infer_instance
      rw [add_one hns u1 n1 hm (by omega)]
  · rintro Γ ⟨s6, s7, s8, s9, rfl, hok⟩
    rw [List.length_map, List.take_length] at hok ⊢
    repeat infer_instance
    rw [add_all hns u1 n1 hok]
    by_cases a : loSum u n ns ≤ n
    · rw [decide_eq_true a, if_pos rfl]
      repeat infer_instance
      exact rfl
    · rw [decide_eq_false a, if_neg (by decide)]
      exact rfl
end
end K69
namespace K69
open PySem PySem.Spec PyProof.Rows L2 Tc Px Py
local macro_rules | `(tactic| fail "x28G10") => `(tactic| first
  | ((with_reducible show G1 _ _ (Stmt.Assign [Expr.Tuple [Expr.Name _ _, Expr.Name _ _] _ _] (Expr.Tuple [Expr.BinOp (Expr.List _ _) Operator.Mult _ _, _] _ _) _) _ _); (with_reducible apply par_on); (with_reducible assumption); (assumption); (eq_refl); (eq_refl); (eq_refl); (eq_refl); (eq_refl); (eq_refl); (eq_refl); (eq_refl); (exact star_cons rfl); (exact star_cons rfl))
  )
local macro_rules | `(tactic| fail "x28G11") => `(tactic| first
  | ((with_reducible show G1 _ _ (Stmt.Assign [Expr.Tuple [Expr.Name _ _, Expr.Name _ _, Expr.Name _ _] _ _] (Expr.Tuple [_, _, _] _ _) _) _ _); (with_reducible apply par_n3); (with_reducible assumption); (assumption); (eq_refl); (eq_refl); (eq_refl); (eq_refl); (eq_refl); (eq_refl); (eq_refl); (eq_refl); (eq_refl); (eq_refl); (eq_refl); (eq_refl))
  )
local macro_rules | `(tactic| fail "x28GE2") => `(tactic| first
  | ((with_reducible show GE _ _ (Expr.Call (Expr.Name _ _) [] [_] _) _ _); (with_reducible apply ge_callR1); (case F => with_reducible assumption); (exact ⟨rfl, rfl, rfl, rfl, rfl⟩); (first | with_reducible assumption | exact Bod.toCxt (by with_reducible assumption) | exact Cxt.blk (Bod.toCxt (by with_reducible assumption)) _ _ _ _ _ _ | exact Cxt.blk (Cxt.blk (Bod.toCxt (by with_reducible assumption)) _ _ _ _ _ _) _ _ _ _ _ _); (eq_refl); (eq_refl); (first | with_reducible assumption | exact Exc.none); rotate_left; (decide); (eq_refl); (eq_refl); (eq_refl); (eq_refl))
  )
local macro_rules | `(tactic| infer_instance) => `(tactic| first
  | ((with_reducible show G1 _ _ (Stmt.Assign [Expr.Tuple [Expr.Name _ _, Expr.Name _ _] _ _] (Expr.Tuple [Expr.BinOp (Expr.List _ _) Operator.Mult _ _, _] _ _) _) _ _); fail "x28G10")
  | ((with_reducible show G1 _ _ (Stmt.Assign [Expr.Tuple [Expr.Name _ _, Expr.Name _ _, Expr.Name _ _] _ _] (Expr.Tuple [_, _, _] _ _) _) _ _); fail "x28G11")
  | ((with_reducible show GQ _ _ false (Expr.Name _ _) _ _); (with_reducible refine gq_of ?_))
  | ((with_reducible show GE _ _ (Expr.Call (Expr.Name _ _) [] [_] _) _ _); fail "x28GE2")
  | ((with_reducible show ∃ d1 d2 d3, _ = [d1, d2, d3] ∧ _); refine ⟨_, _, _, rfl, rfl, rfl, rfl, ?_⟩)
  | ((with_reducible show ∀ B0 : Bas, GE B0 _ _ _ _); intro _)
  | ((with_reducible show ∃ ds0, _ = (if false = true then PyData.list ds0 else PyData.tuple ds0) ∧ _); refine ⟨_, rfl, ?_⟩)
  )
section
variable {P : Program} {w : World} {K : PySem.W.Frag} {mg : Str → Option Value} {base : Heap}
theorem sc_lfits : FnScope ["_law_unit", "_law_shares_here", "_law_people", "_law_least_here", "_law_most", "_law_share", "_law_low", "_law_high"] ["_law_unit", "_law_shares_here", "_law_people"] (defScope s_lfits) := ⟨rfl, rfl, rfl, by decide +kernel, rfl, by decide +kernel, by decide +kernel⟩
theorem hi_div {u n s : Int} (hu : 0 < u) : ((2 * s + 1) * n - 1) / (2 * u) = Pm.hi (2 * u) n s := by
  unfold Pm.hi
  obtain ⟨a, b⟩ := Pm.up_spec (t := 2 * u) (by omega) n (2 * s + 1)
  generalize Pm.up (2 * u) n (2 * s + 1) = U at a b ⊢
  have x : U - 1 ≤ ((2 * s + 1) * n - 1) / (2 * u) := (Int.le_ediv_iff_mul_le (by omega)).mpr (by omega)
  have y : ((2 * s + 1) * n - 1) / (2 * u) < U := Int.ediv_lt_of_lt_mul (by omega) (by omega)
  omega
theorem ok_fits {f : Addr} {fd : FuncData} (F : Fun K "_law_fits" "_law_fits" s_lfits f fd) (sm : ∃ o, K.lookup sysModules = some o) (B : Gls mg) :
    FnG P w K mg base (L2.CX P w) 1 f fd ["_law_unit", "_law_shares_here", "_law_people"] (spF 3 preTr fun ds => .ok (trD ds)) := by
  refine fn_data F sc_lfits sm (by decide) _ _ fun cdv A outer s H E Bs ds hl hp c ex => ?_
  obtain ⟨u, n, ns, rfl, hu, hns, n1, n2⟩ := hp
  have hu2 : 100 ≤ u ∧ u ≤ 1000 := by rcases hu with rfl | rfl <;> decide
  have nd := sc_lfits.nd
  rw [show trD [.int u, .tuple (intsD ns), .int n] = .bool (addB u n ns) from by
    show PyData.bool (addB u n (asIs (intsD ns))) = _
    rw [asIs_ints]]
  have u1 : 0 < u := by omega
  refine gs_cons ?_
  repeat infer_instance
  refine ⟨fun i Γ => ∃ s6 s7 s8, Γ = [.d (.int u), .d (.tuple (intsD ns)), .d (.int n), .d (.int (loSum u n (ns.take i))), .d (.int (hiSum u n (ns.take i))), s6, s7, s8] ∧ ∀ s ∈ ns.take i, loF u n s ≤ hiF u n s, ⟨_, _, _, rfl, fun _ h => nomatch h⟩, fun _ _ _ _ => trivial, ?_, ?_⟩
  · rintro i Γ hi ⟨s6, s7, s8, rfl, hok⟩
    have hi : i < ns.length := by rw [List.length_map] at hi; exact hi
    have hm := List.getElem_mem hi
    have ho := hns.ok _ hm
    have htk : ns.take (i + 1) = ns.take i ++ [ns[i]] := List.take_succ_eq_append_getElem hi
    rw [nth_int hi]
    generalize ns[i] = s at ho hm htk ⊢
    have l0 : 0 ≤ loF u n s := Pm.lo_nn u1 n1
    repeat infer_instance
    by_cases cs : 0 < s
    · rw [decide_eq_true cs, if_pos rfl]
      repeat infer_instance
      have hL : loF u n s = loF u n s := rfl
      rw [show -((1 - 2 * s) * n / (2 * u)) = loF u n s from by
        unfold loF Pm.lo Pm.up
        rw [if_pos cs, show 1 - 2 * s = -(2 * s - 1) from by omega]]
      repeat infer_instance
      rw [hi_div u1]
      rw [show (if Pm.hi (2 * u) n s < n then Pm.hi (2 * u) n s else n) = hiF u n s from by unfold hiF; split <;> omega]
      by_cases hb : loF u n s ≤ hiF u n s
      · rw [decide_eq_false (show ¬ hiF u n s < loF u n s by omega), if_neg (by decide)]
        repeat infer_instance
        repeat (with_reducible refine gs_nil ?_)
        show Gs _ _ _ _ _
        refine gs_cons ?_
        repeat infer_instance
        repeat (with_reducible refine gs_nil ?_)
        have e1 : loSum u n (ns.take (i + 1)) = loSum u n (ns.take i) + loF u n s := by
          rw [htk, ← hL]
          exact sm_snoc _ _ _
        have e2 : hiSum u n (ns.take (i + 1)) = hiSum u n (ns.take i) + hiF u n s := by
          rw [htk]
          exact sm_snoc _ _ _
        show ∃ s6 s7 s8, _ = [Sl.d (.int u), .d (.tuple (intsD ns)), .d (.int n), .d (.int (loSum u n (ns.take (i + 1)))), .d (.int (hiSum u n (ns.take (i + 1)))), s6, s7, s8] ∧ ∀ s ∈ ns.take (i + 1), loF u n s ≤ hiF u n s
        rw [e1, e2]
        refine ⟨_, _, _, rfl, fun x hx => ?_⟩
        rw [htk] at hx
        rcases List.mem_append.mp hx with hx | hx
        · exact hok x hx
        · rw [List.mem_singleton.mp hx, hL]
          exact hb
      · rw [decide_eq_true (show hiF u n s < loF u n s by omega), if_pos rfl]
        repeat infer_instance
        rw [add_one hns u1 n1 hm (by omega)]
    · rw [decide_eq_false cs, if_neg (by decide)]
      repeat infer_instance
      have hL : loF u n s = 0 := by
        unfold loF Pm.lo
        rw [if_neg cs]
      repeat infer_instance
      rw [hi_div u1]
      rw [show (if Pm.hi (2 * u) n s < n then Pm.hi (2 * u) n s else n) = hiF u n s from by unfold hiF; split <;> omega]
      by_cases hb : 0 ≤ hiF u n s
      · rw [decide_eq_false (show ¬ hiF u n s < 0 by omega), if_neg (by decide)]
        repeat infer_instance
        repeat (with_reducible refine gs_nil ?_)
        show Gs _ _ _ _ _
        refine gs_cons ?_
        repeat infer_instance
        repeat (with_reducible refine gs_nil ?_)
        have e1 : loSum u n (ns.take (i + 1)) = loSum u n (ns.take i) + 0 := by
          rw [htk, ← hL]
          exact sm_snoc _ _ _
        have e2 : hiSum u n (ns.take (i + 1)) = hiSum u n (ns.take i) + hiF u n s := by
          rw [htk]
          exact sm_snoc _ _ _
        show ∃ s6 s7 s8, _ = [Sl.d (.int u), .d (.tuple (intsD ns)), .d (.int n), .d (.int (loSum u n (ns.take (i + 1)))), .d (.int (hiSum u n (ns.take (i + 1)))), s6, s7, s8] ∧ ∀ s ∈ ns.take (i + 1), loF u n s ≤ hiF u n s
        rw [e1, e2]
        refine ⟨_, _, _, rfl, fun x hx => ?_⟩
        rw [htk] at hx
        rcases List.mem_append.mp hx with hx | hx
        · exact hok x hx
        · rw [List.mem_singleton.mp hx, hL]
          exact hb
      · rw [decide_eq_true (show hiF u n s < 0 by omega), if_pos rfl]
        repeat infer_instance
        rw [add_one hns u1 n1 hm (by omega)]
  · rintro Γ ⟨s6, s7, s8, rfl, hok⟩
    rw [List.length_map, List.take_length] at hok ⊢
    repeat infer_instance
    rw [add_all hns u1 n1 hok]
    by_cases a : loSum u n ns ≤ n
    · rw [decide_eq_true a, if_pos rfl]
      repeat infer_instance
      exact rfl
    · rw [decide_eq_false a, if_neg (by decide)]
      exact rfl
end
end K69
namespace K69
open PySem PySem.Spec PyProof.Rows L2 Tc Px Py
local macro_rules | `(tactic| fail "x29G10") => `(tactic| first
  | ((with_reducible show G1 _ _ (Stmt.Assign [Expr.Tuple [Expr.Name _ _, Expr.Name _ _] _ _] (Expr.Tuple [Expr.BinOp (Expr.List _ _) Operator.Mult _ _, _] _ _) _) _ _); (with_reducible apply par_on); (with_reducible assumption); (assumption); (eq_refl); (eq_refl); (eq_refl); (eq_refl); (eq_refl); (eq_refl); (eq_refl); (eq_refl); (exact star_cons rfl); (exact star_cons rfl))
  )
local macro_rules | `(tactic| fail "x29G11") => `(tactic| first
  | ((with_reducible show G1 _ _ (Stmt.Assign [Expr.Tuple [Expr.Name _ _, Expr.Name _ _, Expr.Name _ _] _ _] (Expr.Tuple [_, _, _] _ _) _) _ _); (with_reducible apply par_n3); (with_reducible assumption); (assumption); (eq_refl); (eq_refl); (eq_refl); (eq_refl); (eq_refl); (eq_refl); (eq_refl); (eq_refl); (eq_refl); (eq_refl); (eq_refl); (eq_refl))
  )
local macro_rules | `(tactic| fail "x29GE2") => `(tactic| first
  | ((with_reducible show GE _ _ (Expr.Call (Expr.Name _ _) [] [_] _) _ _); (with_reducible apply ge_callR1); (case F => with_reducible assumption); (exact ⟨rfl, rfl, rfl, rfl, rfl⟩); (first | with_reducible assumption | exact Bod.toCxt (by with_reducible assumption) | exact Cxt.blk (Bod.toCxt (by with_reducible assumption)) _ _ _ _ _ _ | exact Cxt.blk (Cxt.blk (Bod.toCxt (by with_reducible assumption)) _ _ _ _ _ _) _ _ _ _ _ _); (eq_refl); (eq_refl); (first | with_reducible assumption | exact Exc.none); rotate_left; (decide); (eq_refl); (eq_refl); (eq_refl); (eq_refl))
  )
local macro_rules | `(tactic| infer_instance) => `(tactic| first
  | ((with_reducible show G1 _ _ (Stmt.Assign [Expr.Tuple [Expr.Name _ _, Expr.Name _ _] _ _] (Expr.Tuple [Expr.BinOp (Expr.List _ _) Operator.Mult _ _, _] _ _) _) _ _); fail "x29G10")
  | ((with_reducible show G1 _ _ (Stmt.Assign [Expr.Tuple [Expr.Name _ _, Expr.Name _ _, Expr.Name _ _] _ _] (Expr.Tuple [_, _, _] _ _) _) _ _); fail "x29G11")
  | ((with_reducible show GQ _ _ false (Expr.Name _ _) _ _); (with_reducible refine gq_of ?_))
  | ((with_reducible show GE _ _ (Expr.Call (Expr.Name _ _) [] [_] _) _ _); fail "x29GE2")
  | ((with_reducible show ∃ d1 d2 d3, _ = [d1, d2, d3] ∧ _); refine ⟨_, _, _, rfl, rfl, rfl, rfl, ?_⟩)
  | ((with_reducible show ∀ B0 : Bas, GE B0 _ _ _ _); intro _)
  | ((with_reducible show ∃ ds0, _ = (if false = true then PyData.list ds0 else PyData.tuple ds0) ∧ _); refine ⟨_, rfl, ?_⟩)
  )
section
variable {P : Program} {w : World} {K : PySem.W.Frag} {mg : Str → Option Value} {base : Heap}
theorem sc_lsums : FnScope ["_law_unit", "_law_shares_here", "_law_low", "_law_share"] ["_law_unit", "_law_shares_here"] (defScope s_lsums) := ⟨rfl, rfl, rfl, by decide +kernel, rfl, by decide +kernel, by decide +kernel⟩
theorem sc_lfar : FnScope ["_law_unit", "_law_shares_here", "_law_wide", "_law_room", "_law_own"] ["_law_unit", "_law_shares_here"] (defScope s_lfar) := ⟨rfl, rfl, rfl, by decide +kernel, rfl, by decide +kernel, by decide +kernel⟩
def preSu (ds : List PyData) : Prop := ∃ (u : Int) (ns : List Int), ds = [.int u, .tuple (intsD ns)] ∧ unit u ∧ Shs u ns
def r0 (u : Int) (ns : List Int) : Int := 2 * u - (lsI ns).sum
def r1 (u : Int) (ns : List Int) : Int := (bsI ns).sum - 2 * u
def suD : List PyData → PyData
  | [.int u, .tuple xs] => .list (intsD [r0 u (asIs xs), r1 u (asIs xs)])
  | _ => .none
theorem ok_sums {f : Addr} {fd : FuncData} (F : Fun K "_law_sums" "_law_sums" s_lsums f fd) (sm : ∃ o, K.lookup sysModules = some o) (B : Gls mg) :
    FnG P w K mg base (L2.CX P w) 1 f fd ["_law_unit", "_law_shares_here"] (spF 2 preSu fun ds => .ok (suD ds)) := by
  refine fn_data F sc_lsums sm (by decide) _ _ fun cdv A outer s H E Bs ds hl hp c ex => ?_
  obtain ⟨u, ns, rfl, hu, hns⟩ := hp
  have hu2 : 100 ≤ u ∧ u ≤ 1000 := by rcases hu with rfl | rfl <;> decide
  have nd := sc_lsums.nd
  have h6 := hns.six
  rw [show suD [.int u, .tuple (intsD ns)] = .list (intsD [r0 u ns, r1 u ns]) from by
    show PyData.list (intsD [r0 u (asIs (intsD ns)), r1 u (asIs (intsD ns))]) = _
    rw [asIs_ints]]
  refine gs_cons ?_
  repeat infer_instance
  ((with_reducible apply gf_lk); (eq_refl); (assumption); (eq_refl); (eq_refl); (eq_refl); (intro _; eq_refl))
  repeat infer_instance
  refine ⟨Nat.le_trans (show (intsD ns).length ≤ 1000 by rw [List.length_map]; omega) (by decide), fun i => decide (asI (nth (intsD ns) i) > 0), fun i => .int (2 * asI (nth (intsD ns) i) - 1), fun i hi B' => ?_, ?_⟩
  · have hi : i < ns.length := by rw [List.length_map] at hi; exact hi
    have ho := hns.ok _ (List.getElem_mem hi)
    have eN := nth_int hi
    generalize ns[i] = v at eN ho
    rw [eN]
    repeat infer_instance
    refine ⟨by show decide (0 < v) = decide (asI (nth (intsD ns) i) > 0); rw [eN] <;> rfl, ?_⟩
    generalize decide (0 < v) = t
    cases t
    · exact rfl
    repeat infer_instance
    exact ⟨by show _ = PyData.int _; rw [eN] <;> rfl, rfl⟩
  rw [fil_pg (fun s => decide (s > 0)) fun s => 2 * s - 1]
  show SumD (.list (intsD (lsI ns))) _
  refine sum_intsL ?_
  repeat infer_instance
  ((with_reducible apply gf_lk); (eq_refl); (assumption); (eq_refl); (eq_refl); (eq_refl); (intro _; eq_refl))
  repeat infer_instance
  refine ⟨Nat.le_trans (show (intsD ns).length ≤ 1000 by rw [List.length_map]; omega) (by decide), fun i => true, fun i => .int (2 * asI (nth (intsD ns) i) + 1), fun i hi B' => ?_, ?_⟩
  · have hi : i < ns.length := by rw [List.length_map] at hi; exact hi
    have ho := hns.ok _ (List.getElem_mem hi)
    have eN := nth_int hi
    generalize ns[i] = v at eN ho
    rw [eN]
    repeat infer_instance
    exact ⟨by show _ = PyData.int _; rw [eN] <;> rfl, rfl⟩
  rw [fil_ints fun s => 2 * s + 1]
  show SumD (.list (intsD (bsI ns))) _
  refine sum_intsL ?_
  repeat infer_instance
  exact rfl
def farI (u : Int) (ns : List Int) : Int := max u (max (if r0 u ns > 0 then 2 * u * ns.length / r0 u ns + 1 else u) (if r1 u ns > 0 then 2 * u * ns.length / r1 u ns + 1 else u))
def farD : List PyData → PyData
  | [.int u, .tuple xs] => .int (farI u (asIs xs))
  | _ => .none
theorem ok_far (FSU : Call P w K mg base (L2.CX P w) 1 "_law_sums" ["_law_unit", "_law_shares_here"] (spF 2 preSu fun ds => .ok (suD ds))) {f : Addr} {fd : FuncData} (F : Fun K "_law_far" "_law_far" s_lfar f fd) (sm : ∃ o, K.lookup sysModules = some o) (B : Gls mg) :
    FnG P w K mg base (L2.CX P w) 2 f fd ["_law_unit", "_law_shares_here"] (spF 2 preSu fun ds => .ok (farD ds)) := by
  refine fn_data F sc_lfar sm (by decide) _ _ fun cdv A outer s H E Bs ds hl hp c ex => ?_
  obtain ⟨u, ns, rfl, hu, hns⟩ := hp
  have hu2 : 100 ≤ u ∧ u ≤ 1000 := by rcases hu with rfl | rfl <;> decide
  have nd := sc_lfar.nd
  have h6 := hns.six
  rw [show farD [.int u, .tuple (intsD ns)] = .int (farI u ns) from by
    show PyData.int (farI u (asIs (intsD ns))) = _
    rw [asIs_ints]]
  have eS : suD [.int u, .tuple (intsD ns)] = .list (intsD [r0 u ns, r1 u ns]) := by
    show PyData.list (intsD [r0 u (asIs (intsD ns)), r1 u (asIs (intsD ns))]) = _
    rw [asIs_ints]
  refine gs_cons ?_
  repeat infer_instance
  refine ⟨⟨u, ns, rfl, hu, hns⟩, ?_⟩
  rw [eS]
  refine to_ok ?_
  repeat infer_instance
  ((with_reducible apply gf_lk); (eq_refl); (assumption); (eq_refl); (eq_refl); (eq_refl); (intro _; eq_refl))
  repeat infer_instance
  rw [show ((intsD ns).length : Int) = ns.length from by rw [List.length_map]]
  generalize hW : 2 * u * (ns.length : Int) = W
  have W0 : 0 ≤ W ∧ W ≤ 12000 := by
    rw [← hW]
    have : (ns.length : Int) ≤ 6 := by omega
    have z := Int.mul_le_mul (show 2 * u ≤ 2000 by omega) this (by omega) (by decide)
    have y := Int.mul_nonneg (show 0 ≤ 2 * u by omega) (show 0 ≤ (ns.length : Int) by omega)
    omega
  refine ⟨fun i => decide (asI (nth (intsD [r0 u ns, r1 u ns]) i) > 0), fun i => .int (W / asI (nth (intsD [r0 u ns, r1 u ns]) i) + 1), fun i hi B' => ?_, ?_⟩
  · have eN := nth_int (ns := [r0 u ns, r1 u ns]) hi
    have vb : ([r0 u ns, r1 u ns])[i] ≤ 30000 := by
      have sL := ls_sum hns hu
      have sB := bs_sum hns hu
      have := List.getElem_mem (l := [r0 u ns, r1 u ns]) hi
      rcases List.mem_cons.mp this with e | e
      · rw [e]
        unfold r0
        omega
      · rw [List.mem_singleton.mp e]
        unfold r1
        omega
    generalize ([r0 u ns, r1 u ns])[i] = v at eN vb
    rw [eN]
    repeat infer_instance
    refine ⟨by show decide (0 < v) = decide (asI (nth (intsD [r0 u ns, r1 u ns]) i) > 0); rw [eN] <;> rfl, ?_⟩
    by_cases hv : 0 < v
    · rw [decide_eq_true hv, if_pos rfl]
      repeat infer_instance
      exact ⟨by show _ = PyData.int _; rw [eN] <;> rfl, rfl⟩
    · rw [decide_eq_false hv, if_neg (by decide)]
      exact rfl
  rw [fil_pg (fun s => decide (s > 0)) fun s => W / s + 1]
  have ll : (([r0 u ns, r1 u ns].filter (fun s => decide (s > 0))).map fun s => W / s + 1).length ≤ 2 := by
    rw [List.length_map]
    exact List.length_filter_le _ _
  refine add_ll (Nat.le_trans (m := 100) (by rw [List.length_map]; show 1 + _ ≤ 100; omega) (by decide)) ?_
  refine ⟨u :: (([r0 u ns, r1 u ns].filter (fun s => decide (s > 0))).map fun s => W / s + 1), .inl rfl, Nat.succ_pos _, fun m hm hy => ?_⟩
  show Out.ok (PyData.int (farI u ns)) = Out.ok (PyData.int m)
  refine congrArg (fun x => Out.ok (PyData.int x)) ?_
  unfold farI
  rw [hW]
  have a0 := hy u (.head _)
  have a1 : r0 u ns > 0 → W / r0 u ns + 1 ≤ m := fun z => hy _ (.tail _ (List.mem_map.mpr ⟨_, List.mem_filter.mpr ⟨.head _, decide_eq_true z⟩, rfl⟩))
  have a2 : r1 u ns > 0 → W / r1 u ns + 1 ≤ m := fun z => hy _ (.tail _ (List.mem_map.mpr ⟨_, List.mem_filter.mpr ⟨.tail _ (.head _), decide_eq_true z⟩, rfl⟩))
  have a3 : m = u ∨ (r0 u ns > 0 ∧ m = W / r0 u ns + 1) ∨ (r1 u ns > 0 ∧ m = W / r1 u ns + 1) := by
    rcases List.mem_cons.mp hm with e | hm
    · exact .inl e
    · obtain ⟨x, hx, rfl⟩ := List.mem_map.mp hm
      obtain ⟨hx, hx0⟩ := List.mem_filter.mp hx
      have hx0 := of_decide_eq_true hx0
      rcases List.mem_cons.mp hx with rfl | hx
      · exact .inr (.inl ⟨hx0, rfl⟩)
      · rw [List.mem_singleton.mp hx] at hx0 ⊢
        exact .inr (.inr ⟨hx0, rfl⟩)
  clear hm hy
  split <;> split <;> omega
end
end K69
namespace K69
open PySem PySem.Spec PyProof.Rows L2 Tc Px Py
local macro_rules | `(tactic| fail "x30GI0") => `(tactic| first
  | ((with_reducible show GI _ _ _ (Expr.Call (Expr.Name "range" _) [_, _, _] _ _) _ _); (with_reducible apply gi_rg3); (with_reducible eq_refl); (eq_refl); (exact Gls.range (by assumption)); rotate_left; (exact star_cons rfl); (eq_refl))
  )
local macro_rules | `(tactic| fail "x30G11") => `(tactic| first
  | ((with_reducible show G1 _ _ (Stmt.Assign [Expr.Tuple [Expr.Name _ _, Expr.Name _ _] _ _] (Expr.Tuple [Expr.BinOp (Expr.List _ _) Operator.Mult _ _, _] _ _) _) _ _); (with_reducible apply par_on); (with_reducible assumption); (assumption); (eq_refl); (eq_refl); (eq_refl); (eq_refl); (eq_refl); (eq_refl); (eq_refl); (eq_refl); (exact star_cons rfl); (exact star_cons rfl))
  )
local macro_rules | `(tactic| fail "x30G12") => `(tactic| first
  | ((with_reducible show G1 _ _ (Stmt.Assign [Expr.Tuple [Expr.Name _ _, Expr.Name _ _, Expr.Name _ _] _ _] (Expr.Tuple [_, _, _] _ _) _) _ _); (with_reducible apply par_n3); (with_reducible assumption); (assumption); (eq_refl); (eq_refl); (eq_refl); (eq_refl); (eq_refl); (eq_refl); (eq_refl); (eq_refl); (eq_refl); (eq_refl); (eq_refl); (eq_refl))
  )
local macro_rules | `(tactic| fail "x30GE3") => `(tactic| first
  | ((with_reducible show GE _ _ (Expr.Call (Expr.Name _ _) [] [_] _) _ _); (with_reducible apply ge_callR1); (case F => with_reducible assumption); (exact ⟨rfl, rfl, rfl, rfl, rfl⟩); (first | with_reducible assumption | exact Bod.toCxt (by with_reducible assumption) | exact Cxt.blk (Bod.toCxt (by with_reducible assumption)) _ _ _ _ _ _ | exact Cxt.blk (Cxt.blk (Bod.toCxt (by with_reducible assumption)) _ _ _ _ _ _) _ _ _ _ _ _); (eq_refl); (eq_refl); (first | with_reducible assumption | exact Exc.none); rotate_left; (decide); (eq_refl); (eq_refl); (eq_refl); (eq_refl))
  )
local macro_rules | `(tactic| infer_instance) => `(tactic| first
  | ((with_reducible show GI _ _ _ (Expr.Call (Expr.Name "range" _) [_, _, _] _ _) _ _); fail "x30GI0")
  | ((with_reducible show G1 _ _ (Stmt.Assign [Expr.Tuple [Expr.Name _ _, Expr.Name _ _] _ _] (Expr.Tuple [Expr.BinOp (Expr.List _ _) Operator.Mult _ _, _] _ _) _) _ _); fail "x30G11")
  | ((with_reducible show G1 _ _ (Stmt.Assign [Expr.Tuple [Expr.Name _ _, Expr.Name _ _, Expr.Name _ _] _ _] (Expr.Tuple [_, _, _] _ _) _) _ _); fail "x30G12")
  | ((with_reducible show GQ _ _ false (Expr.Name _ _) _ _); (with_reducible refine gq_of ?_))
  | ((with_reducible show GE _ _ (Expr.Call (Expr.Name _ _) [] [_] _) _ _); fail "x30GE3")
  | ((with_reducible show ∃ d1 d2 d3, _ = [d1, d2, d3] ∧ _); refine ⟨_, _, _, rfl, rfl, rfl, rfl, ?_⟩)
  | ((with_reducible show ∀ B0 : Bas, GE B0 _ _ _ _); intro _)
  | ((with_reducible show ∃ ds0, _ = (if false = true then PyData.list ds0 else PyData.tuple ds0) ∧ _); refine ⟨_, rfl, ?_⟩)
  )
section
variable {P : Program} {w : World} {K : PySem.W.Frag} {mg : Str → Option Value} {base : Heap}
theorem sc_lleast : FnScope ["_law_unit", "_law_shares_here", "_law_room", "_law_people"] ["_law_unit", "_law_shares_here"] (defScope s_lleast) := ⟨rfl, rfl, rfl, by decide +kernel, rfl, by decide +kernel, by decide +kernel⟩
theorem sc_lfrom : FnScope ["_law_unit", "_law_shares_here", "_law_room", "_law_people"] ["_law_unit", "_law_shares_here"] (defScope s_lfrom) := ⟨rfl, rfl, rfl, by decide +kernel, rfl, by decide +kernel, by decide +kernel⟩
theorem far_bd {u : Int} {ns : List Int} (h : Shs u ns) (hu : unit u) : u ≤ farI u ns ∧ farI u ns ≤ 12001 := by
  have hu2 : 100 ≤ u ∧ u ≤ 1000 := by rcases hu with rfl | rfl <;> decide
  have h6 := h.six
  unfold farI
  generalize hW : 2 * u * (ns.length : Int) = W
  have W0 : 0 ≤ W ∧ W ≤ 12000 := by
    rw [← hW]
    have : (ns.length : Int) ≤ 6 := by omega
    have z := Int.mul_le_mul (show 2 * u ≤ 2000 by omega) this (by omega) (by decide)
    have y := Int.mul_nonneg (show 0 ≤ 2 * u by omega) (show 0 ≤ (ns.length : Int) by omega)
    omega
  have a : ∀ r : Int, r > 0 → W / r ≤ 12000 := fun r hr => Int.le_trans (Int.ediv_le_self _ W0.1) W0.2
  have a0 := a (r0 u ns)
  have a1 := a (r1 u ns)
  split <;> split <;> omega
theorem far_gap {u : Int} {ns : List Int} (h : Shs u ns) (hu : 0 < u) (r0p : (lsI ns).sum < 2 * u) (r1p : 2 * u < (bsI ns).sum) : gapI u ns ≤ farI u ns := by
  have lb := ls_len ns
  have lB : (bsI ns).length = ns.length := List.length_map _
  have p0 : r0 u ns > 0 := by unfold r0; omega
  have p1 : r1 u ns > 0 := by unfold r1; omega
  have e : 2 * u * (ns.length : Int) = (ns.length : Int) * (2 * u) := Int.mul_comm _ _
  have a : lastA (2 * u) (lsI ns) ≤ 2 * u * ns.length / r0 u ns := by
    unfold lastA
    refine Int.ediv_le_ediv p0 ?_
    have z : ((lsI ns).length : Int) * (2 * u) ≤ (ns.length : Int) * (2 * u) := Int.mul_le_mul_of_nonneg_right (by omega) (by omega)
    rw [Int.sub_mul, Int.one_mul, e]
    omega
  have b : lastB (2 * u) (bsI ns) ≤ 2 * u * ns.length / r1 u ns := by
    unfold lastB
    refine Int.ediv_le_ediv p1 ?_
    rw [lB, Int.sub_mul, Int.one_mul, e]
    omega
  unfold farI gapI
  rw [if_pos p0, if_pos p1]
  split <;> omega
theorem least_is {u p : Int} {ns : List Int} (h : Shs u ns) (hu : 0 < u) (hN : noneI u ns = false) (p1 : 1 ≤ p) (p2 : p ≤ 20000) (hp : addB u p ns = true) (hb : ∀ k, 1 ≤ k → k < p → addB u k ns = false) : leastD u ns = .int p := by
  unfold leastD
  rw [hN, if_neg (by decide)]
  by_cases hM : (lsI ns).sum = 2 * u
  · rw [if_pos hM]
    have m1 := mul_pos h hu
    have d := (add_mul h hu p1 hM).mp hp
    have le := Int.le_of_dvd (by omega) d
    have am := (add_mul h hu m1 hM).mpr (Int.dvd_refl _)
    refine congrArg PyData.int ?_
    by_cases c : mulI u ns < p
    · rw [hb _ m1 c] at am
      cases am
    · omega
  · rw [if_neg hM]
    exact congrArg PyData.int (first_is p1 (by omega) hp hb)
theorem some_fit {u : Int} {ns : List Int} (h : Shs u ns) (hu : unit u) (hN : noneI u ns = false) : ∃ L, 1 ≤ L ∧ L ≤ (if farI u ns > 2 * u then farI u ns else 2 * u) ∧ addB u L ns = true := by
  have hu2 : 100 ≤ u ∧ u ≤ 1000 := by rcases hu with rfl | rfl <;> decide
  have u1 : 0 < u := by omega
  unfold noneI at hN
  rw [Bool.or_eq_false_iff, decide_eq_false_iff_not, decide_eq_false_iff_not] at hN
  by_cases hM : (lsI ns).sum = 2 * u
  · have m1 := mul_pos h u1
    have m2 : mulI u ns ≤ 2 * u := Int.ediv_le_self _ (by omega)
    exact ⟨mulI u ns, m1, by split <;> omega, (add_mul h u1 m1 hM).mpr (Int.dvd_refl _)⟩
  · have g1 := gap_pos h u1 (by omega)
    have fg := far_gap h u1 (by omega) (by omega)
    exact ⟨gapI u ns, g1, by split <;> omega, gap_fits h u1 (by omega) (by omega) (Int.le_refl _)⟩
def lpF : List PyData → PyData
  | [.int u, .tuple xs] => leastD u (asIs xs)
  | _ => .none
theorem ok_least (FSU : Call P w K mg base (L2.CX P w) 1 "_law_sums" ["_law_unit", "_law_shares_here"] (spF 2 preSu fun ds => .ok (suD ds))) (FFa : Call P w K mg base (L2.CX P w) 2 "_law_far" ["_law_unit", "_law_shares_here"] (spF 2 preSu fun ds => .ok (farD ds))) (FFi : Call P w K mg base (L2.CX P w) 1 "_law_fits" ["_law_unit", "_law_shares_here", "_law_people"] (spF 3 preTr fun ds => .ok (trD ds))) {f : Addr} {fd : FuncData} (F : Fun K "_law_least" "_law_least" s_lleast f fd) (sm : ∃ o, K.lookup sysModules = some o) (B : Gls mg) :
    FnG P w K mg base (L2.CX P w) 3 f fd ["_law_unit", "_law_shares_here"] (spF 2 preSu fun ds => .ok (lpF ds)) := by
  refine fn_data F sc_lleast sm (by decide) _ _ fun cdv A outer s H E Bs ds hl hp c ex => ?_
  obtain ⟨u, ns, rfl, hu, hns⟩ := hp
  have hu2 : 100 ≤ u ∧ u ≤ 1000 := by rcases hu with rfl | rfl <;> decide
  have u1 : 0 < u := by omega
  have nd := sc_lleast.nd
  have h6 := hns.six
  have eS : suD [.int u, .tuple (intsD ns)] = .list (intsD [r0 u ns, r1 u ns]) := by
    show PyData.list (intsD [r0 u (asIs (intsD ns)), r1 u (asIs (intsD ns))]) = _
    rw [asIs_ints]
  have eF : farD [.int u, .tuple (intsD ns)] = .int (farI u ns) := by
    show PyData.int (farI u (asIs (intsD ns))) = _
    rw [asIs_ints]
  have eT : ∀ n : Int, trD [.int u, .tuple (intsD ns), .int n] = .bool (addB u n ns) := fun n => by
    show PyData.bool (addB u n (asIs (intsD ns))) = _
    rw [asIs_ints]
  rw [show lpF [.int u, .tuple (intsD ns)] = leastD u ns from by
    show leastD u (asIs (intsD ns)) = _
    rw [asIs_ints]]
  refine gs_cons ?_
  repeat infer_instance
  refine ⟨⟨u, ns, rfl, hu, hns⟩, ?_⟩
  rw [eS]
  refine to_ok ?_
  repeat infer_instance
  by_cases c0 : r0 u ns < 0
  · rw [decide_eq_true c0, if_pos rfl]
    repeat infer_instance
    show Out.ok (leastD u ns) = Out.ok PyData.none
    unfold leastD
    rw [if_pos (by unfold noneI r0 at *; rw [Bool.or_eq_true, decide_eq_true_eq]; exact .inl (by omega))]
  rw [decide_eq_false c0, if_neg (by decide)]
  repeat infer_instance
  by_cases c1 : r1 u ns ≤ 0
  · rw [decide_eq_true c1, if_pos rfl]
    repeat infer_instance
    show Out.ok (leastD u ns) = Out.ok PyData.none
    unfold leastD
    rw [if_pos (by unfold noneI r1 at *; rw [Bool.or_eq_true, decide_eq_true_eq, decide_eq_true_eq]; exact .inr (by omega))]
  rw [decide_eq_false c1, if_neg (by decide)]
  have hN : noneI u ns = false := by
    unfold r0 at c0
    unfold r1 at c1
    unfold noneI
    rw [Bool.or_eq_false_iff, decide_eq_false_iff_not, decide_eq_false_iff_not]
    omega
  have hL := some_fit hns hu hN
  have fb := far_bd hns hu
  repeat infer_instance
  repeat (with_reducible refine gs_nil ?_)
  show Gs _ _ _ _ _
  refine gs_cons ?_
  repeat infer_instance
  refine ⟨⟨u, ns, rfl, hu, hns⟩, ?_⟩
  rw [eF]
  refine to_ok ?_
  repeat infer_instance
  generalize hG : (if farI u ns > 2 * u then farI u ns else 2 * u) = G at hL
  have G1 : 1 ≤ G ∧ G ≤ 12001 := by rw [← hG]; split <;> omega
  refine ⟨by omega, fun i Γ => ∃ s3, Γ = [.d (.int u), .d (.tuple (intsD ns)), .d (.list (intsD [r0 u ns, r1 u ns])), s3] ∧ ∀ k, 1 ≤ k → k ≤ (i : Int) → addB u k ns = false, ⟨_, rfl, fun k h1 h2 => by omega⟩, fun _ _ _ _ => trivial, ?_, ?_⟩
  · rintro i Γ hi ⟨s3, rfl, hk⟩
    have hi : (i : Int) < G := by omega
    repeat infer_instance
    refine ⟨⟨u, _, ns, rfl, hu, hns, by omega, by omega⟩, ?_⟩
    rw [eT]
    refine to_ok ?_
    refine ⟨_, rfl, ?_⟩
    cases hA : addB u (1 + (i : Int)) ns with
    | true =>
      rw [if_pos rfl]
      repeat infer_instance
      show Out.ok (leastD u ns) = Out.ok (PyData.int (1 + (i : Int)))
      rw [least_is hns u1 hN (by omega) (by omega) hA fun k h1 h2 => hk k h1 (by omega)]
    | false =>
      rw [if_neg (by decide)]
      repeat infer_instance
      repeat (with_reducible refine gs_nil ?_)
      refine ⟨_, rfl, fun k h1 h2 => ?_⟩
      by_cases c : k ≤ (i : Int)
      · exact hk k h1 c
      · rw [show k = 1 + (i : Int) from by omega]
        exact hA
  · rintro Γ ⟨s3, rfl, hk⟩
    obtain ⟨L, L1, L2, hL⟩ := hL
    rw [hk L L1 (by omega)] at hL
    cases hL
def FromD (u : Int) (ns : List Int) : PyData := if noneI u ns = true ∨ (lsI ns).sum = 2 * u then .none else .int (fromI u ns)
def frF : List PyData → PyData
  | [.int u, .tuple xs] => FromD u (asIs xs)
  | _ => .none
theorem ok_from (FSU : Call P w K mg base (L2.CX P w) 1 "_law_sums" ["_law_unit", "_law_shares_here"] (spF 2 preSu fun ds => .ok (suD ds))) (FFa : Call P w K mg base (L2.CX P w) 2 "_law_far" ["_law_unit", "_law_shares_here"] (spF 2 preSu fun ds => .ok (farD ds))) (FFi : Call P w K mg base (L2.CX P w) 1 "_law_fits" ["_law_unit", "_law_shares_here", "_law_people"] (spF 3 preTr fun ds => .ok (trD ds))) {f : Addr} {fd : FuncData} (F : Fun K "_law_from" "_law_from" s_lfrom f fd) (sm : ∃ o, K.lookup sysModules = some o) (B : Gls mg) :
    FnG P w K mg base (L2.CX P w) 3 f fd ["_law_unit", "_law_shares_here"] (spF 2 preSu fun ds => .ok (frF ds)) := by
  refine fn_data F sc_lfrom sm (by decide) _ _ fun cdv A outer s H E Bs ds hl hp c ex => ?_
  obtain ⟨u, ns, rfl, hu, hns⟩ := hp
  have hu2 : 100 ≤ u ∧ u ≤ 1000 := by rcases hu with rfl | rfl <;> decide
  have u1 : 0 < u := by omega
  have nd := sc_lfrom.nd
  have h6 := hns.six
  have eS : suD [.int u, .tuple (intsD ns)] = .list (intsD [r0 u ns, r1 u ns]) := by
    show PyData.list (intsD [r0 u (asIs (intsD ns)), r1 u (asIs (intsD ns))]) = _
    rw [asIs_ints]
  have eF : farD [.int u, .tuple (intsD ns)] = .int (farI u ns) := by
    show PyData.int (farI u (asIs (intsD ns))) = _
    rw [asIs_ints]
  have eT : ∀ n : Int, trD [.int u, .tuple (intsD ns), .int n] = .bool (addB u n ns) := fun n => by
    show PyData.bool (addB u n (asIs (intsD ns))) = _
    rw [asIs_ints]
  rw [show frF [.int u, .tuple (intsD ns)] = FromD u ns from by
    show FromD u (asIs (intsD ns)) = _
    rw [asIs_ints]]
  refine gs_cons ?_
  repeat infer_instance
  refine ⟨⟨u, ns, rfl, hu, hns⟩, ?_⟩
  rw [eS]
  refine to_ok ?_
  repeat infer_instance
  by_cases c0 : r0 u ns ≤ 0
  · rw [decide_eq_true c0, if_pos rfl]
    repeat infer_instance
    show Out.ok (FromD u ns) = Out.ok PyData.none
    unfold FromD
    rw [if_pos (by
      unfold noneI
      unfold r0 at c0
      rw [Bool.or_eq_true, decide_eq_true_eq, decide_eq_true_eq]
      omega)]
  rw [decide_eq_false c0, if_neg (by decide)]
  repeat infer_instance
  by_cases c1 : r1 u ns ≤ 0
  · rw [decide_eq_true c1, if_pos rfl]
    repeat infer_instance
    show Out.ok (FromD u ns) = Out.ok PyData.none
    unfold FromD
    rw [if_pos (by
      unfold noneI
      unfold r1 at c1
      rw [Bool.or_eq_true, decide_eq_true_eq, decide_eq_true_eq]
      omega)]
  rw [decide_eq_false c1, if_neg (by decide)]
  unfold r0 at c0
  unfold r1 at c1
  have eD : FromD u ns = .int (fromI u ns) := by
    unfold FromD noneI
    rw [if_neg (by rw [Bool.or_eq_true, decide_eq_true_eq, decide_eq_true_eq]; omega)]
  have fi := from_is hns u1 (by omega) (by omega)
  have fg := far_gap hns u1 (by omega) (by omega)
  have fb := far_bd hns hu
  have gf : ∀ n, farI u ns ≤ n → addB u n ns = true := fun n hn => gap_fits hns u1 (by omega) (by omega) (by omega)
  rw [eD]
  generalize fromI u ns = N at fi ⊢
  repeat infer_instance
  repeat (with_reducible refine gs_nil ?_)
  show Gs _ _ _ _ _
  refine gs_cons ?_
  repeat infer_instance
  refine ⟨⟨u, ns, rfl, hu, hns⟩, ?_⟩
  rw [eF]
  refine to_ok ?_
  generalize farI u ns = G at fb gf ⊢
  repeat infer_instance
  refine ⟨_, _, _, G.toNat, rfl, ?_, ?_⟩
  · have := RgC.neg (i := G) (j := 0) (by omega) (by omega) (by omega) (by omega)
    rw [Int.sub_zero] at this
    exact this
  repeat infer_instance
  refine ⟨fun i Γ => ∃ s3, Γ = [.d (.int u), .d (.tuple (intsD ns)), .d (.list (intsD [r0 u ns, r1 u ns])), s3] ∧ ∀ n, G - (i : Int) + 1 ≤ n → addB u n ns = true, ⟨_, rfl, fun k h1 => gf k (by omega)⟩, fun _ _ _ _ => trivial, ?_, ?_⟩
  · rintro i Γ hi ⟨s3, rfl, hk⟩
    have hi : (i : Int) < G := by omega
    have ep : G + ((i : Nat) : Int) * -1 = G - i := by omega
    show GG _ _ _ (PyData.int (G + ((i : Nat) : Int) * -1)) _ _
    rw [ep]
    generalize hP : G - (i : Int) = p at hk
    have p1 : 1 ≤ p := by omega
    repeat infer_instance
    refine ⟨⟨u, _, ns, rfl, hu, hns, by omega, by omega⟩, ?_⟩
    rw [eT]
    refine to_ok ?_
    refine ⟨_, rfl, ?_⟩
    cases hA : addB u p ns with
    | true =>
      repeat infer_instance
      repeat (with_reducible refine gs_nil ?_)
      refine ⟨_, rfl, fun n hn => ?_⟩
      by_cases c : p + 1 ≤ n
      · exact hk n c
      · rw [show n = p from by omega]
        exact hA
    | false =>
      repeat infer_instance
      show Out.ok (PyData.int N) = Out.ok (PyData.int (p + 1))
      rw [from_uniq fi (N' := p + 1) ⟨by omega, hk, .inr (by rw [show p + 1 - 1 = p from by omega]; exact hA)⟩]
  · rintro Γ ⟨s3, rfl, hk⟩
    repeat infer_instance
    show Out.ok (PyData.int N) = Out.ok (PyData.int 1)
    rw [from_uniq fi (N' := 1) ⟨Int.le_refl _, fun n hn => hk n (by omega), .inl rfl⟩]
  repeat infer_instance
end
end K69
namespace K69
open PySem PySem.Spec PyProof.Rows L2 Tc Px Py
local macro_rules | `(tactic| fail "x31G10") => `(tactic| first
  | ((with_reducible show G1 _ _ (Stmt.Assign [Expr.Tuple [Expr.Name _ _, Expr.Name _ _] _ _] (Expr.Tuple [Expr.BinOp (Expr.List _ _) Operator.Mult _ _, _] _ _) _) _ _); (with_reducible apply par_on); (with_reducible assumption); (assumption); (eq_refl); (eq_refl); (eq_refl); (eq_refl); (eq_refl); (eq_refl); (eq_refl); (eq_refl); (exact star_cons rfl); (exact star_cons rfl))
  )
local macro_rules | `(tactic| fail "x31G11") => `(tactic| first
  | ((with_reducible show G1 _ _ (Stmt.Assign [Expr.Tuple [Expr.Name _ _, Expr.Name _ _, Expr.Name _ _] _ _] (Expr.Tuple [_, _, _] _ _) _) _ _); (with_reducible apply par_n3); (with_reducible assumption); (assumption); (eq_refl); (eq_refl); (eq_refl); (eq_refl); (eq_refl); (eq_refl); (eq_refl); (eq_refl); (eq_refl); (eq_refl); (eq_refl); (eq_refl))
  )
local macro_rules | `(tactic| fail "x31G12") => `(tactic| first
  | ((with_reducible show G1 _ _ (Stmt.Assign [Expr.Tuple [Expr.Name _ _, Expr.Name _ _] _ _] (Expr.Tuple [Expr.List _ _, _] _ _) _) _ _); (with_reducible apply par_on); (with_reducible assumption); (assumption); (eq_refl); (eq_refl); (eq_refl); (eq_refl); (eq_refl); (eq_refl); (eq_refl); (eq_refl); (exact star_cons rfl); (exact star_cons rfl))
  )
local macro_rules | `(tactic| fail "x31G1") => `(tactic| first
  | ((with_reducible show G1 _ _ (Stmt.Assign [Expr.Tuple [Expr.Name _ _, Expr.Name _ _] _ _] (Expr.Tuple [Expr.BinOp (Expr.List _ _) Operator.Mult _ _, _] _ _) _) _ _); fail "x31G10")
  | ((with_reducible show G1 _ _ (Stmt.Assign [Expr.Tuple [Expr.Name _ _, Expr.Name _ _, Expr.Name _ _] _ _] (Expr.Tuple [_, _, _] _ _) _) _ _); fail "x31G11")
  | ((with_reducible show G1 _ _ (Stmt.Assign [Expr.Tuple [Expr.Name _ _, Expr.Name _ _] _ _] (Expr.Tuple [Expr.List _ _, _] _ _) _) _ _); fail "x31G12")
  )
local macro_rules | `(tactic| fail "x31GE3") => `(tactic| first
  | ((with_reducible show GE _ _ (Expr.Call (Expr.Name _ _) [] [_] _) _ _); (with_reducible apply ge_callR1); (case F => with_reducible assumption); (exact ⟨rfl, rfl, rfl, rfl, rfl⟩); (first | with_reducible assumption | exact Bod.toCxt (by with_reducible assumption) | exact Cxt.blk (Bod.toCxt (by with_reducible assumption)) _ _ _ _ _ _ | exact Cxt.blk (Cxt.blk (Bod.toCxt (by with_reducible assumption)) _ _ _ _ _ _) _ _ _ _ _ _); (eq_refl); (eq_refl); (first | with_reducible assumption | exact Exc.none); rotate_left; (decide); (eq_refl); (eq_refl); (eq_refl); (eq_refl))
  )
local macro_rules | `(tactic| infer_instance) => `(tactic| first
  | ((with_reducible show G1 _ _ _ _ _); fail "x31G1")
  | ((with_reducible show GQ _ _ false (Expr.Name _ _) _ _); (with_reducible refine gq_of ?_))
  | ((with_reducible show GE _ _ (Expr.Call (Expr.Name _ _) [] [_] _) _ _); fail "x31GE3")
  | ((with_reducible show ∃ d1 d2 d3, _ = [d1, d2, d3] ∧ _); refine ⟨_, _, _, rfl, rfl, rfl, rfl, ?_⟩)
  | ((with_reducible show ∀ B0 : Bas, GE B0 _ _ _ _); intro _)
  | ((with_reducible show ∃ ds0, _ = (if false = true then PyData.list ds0 else PyData.tuple ds0) ∧ _); refine ⟨_, rfl, ?_⟩)
  )
section
variable {P : Program} {w : World} {K : PySem.W.Frag} {mg : Str → Option Value} {base : Heap}
theorem sc_lnumbers_right : FnScope ["_law_well_here", "_law_unit", "_law_shares_here", "_law_mine", "_law_most", "_law_due", "_law_people"] ["_law_well_here", "_law_unit", "_law_shares_here", "_law_mine"] (defScope s_lnumbers_right) := ⟨rfl, rfl, rfl, by decide +kernel, rfl, by decide +kernel, by decide +kernel⟩
def preMi (C : Addr) (ps ds : List PyData) : Prop := Well ps ∧ ∃ (q : Int) (ns : List Int), ds = [.int (wholeI q), .tuple (intsD ns), inst C (pF q ns)] ∧ place q ∧ Shs (wholeI q) ns
def RTrue (_ _ : List PyData) (o : Out) (ps' : List PyData) : Prop := Well ps' ∧ o = .ok (.bool true)
theorem gn_fit {u m : Int} {ns : List Int} (hm : m ≤ 3000) : GN 50000 2 (.tuple (intsD (fitsI u 1 (m + 1) ns))) := (gn_tup (n := 13) (k := 0) fun x hx => by
    obtain ⟨n, hn, rfl⟩ := List.mem_map.mp hx
    have := ft_mem.mp hn
    exact gn_int (by omega) (by omega)).mono (by
      have := ft_len u 1 (m + 1) ns
      rw [List.length_map]
      omega) (by decide)
theorem fil_rg {m : Int} (g : Int → Bool) : ((List.range (m + 1 - 1).toNat).filter fun i : Nat => g (1 + (i : Int))).map (fun i : Nat => PyData.int (1 + (i : Int))) = intsD ((rangeI 1 (m + 1)).filter g) := by
  unfold rangeI intsD
  rw [List.filter_map, List.map_map] <;> rfl
theorem ok_numbers {C : Addr} (F1 : Call P w K mg base (L2.CX P w) 1 "_law_draw" ["_law_well_here", "_law_top"] (spP 1 preDraw RDraw)) (FTR : Call P w K mg base (L2.CX P w) 2 "_law_tried" ["_law_unit", "_law_shares_here", "_law_people"] (spF 3 preTr fun ds => .ok (trD ds))) (FFi : Call P w K mg base (L2.CX P w) 1 "_law_fits" ["_law_unit", "_law_shares_here", "_law_people"] (spF 3 preTr fun ds => .ok (trD ds))) (FP : Call P w K mg base (L2.CX P w) 6 "people_for" ["poll", "most"] (spF 2 (prePp C) fun ds => .ok (ppD ds))) (FPR : CallR P w K mg base (L2.CX P w) 6 "people_for" ["poll", "most"] (spF 2 (prePp C) fun ds => .ok (ppD ds)) ["most", "poll"]) {f : Addr} {fd : FuncData} (F : Fun K "_law_numbers_right" "_law_numbers_right" s_lnumbers_right f fd) (sm : ∃ o, K.lookup sysModules = some o) (B : Gls mg) :
    FnG P w K mg base (L2.CX P w) 7 f fd ["_law_well_here", "_law_unit", "_law_shares_here", "_law_mine"] (spP 3 (preMi C) RTrue) := by
  refine fn_pail F sc_lnumbers_right sm rfl _ _ fun cdv A outer s H E Bs ad ms ds hl hp c ex => ?_
  obtain ⟨hw, q, ns, rfl, hq, hns⟩ := hp
  obtain ⟨pu, q0, q1⟩ := place_u hq
  have hu2 : 100 ≤ wholeI q ∧ wholeI q ≤ 1000 := by omega
  have u1 : 0 < wholeI q := by omega
  have nd := sc_lnumbers_right.nd
  have eT : ∀ n : Int, trD [.int (wholeI q), .tuple (intsD ns), .int n] = .bool (addB (wholeI q) n ns) := fun n => by
    show PyData.bool (addB (wholeI q) n (asIs (intsD ns))) = _
    rw [asIs_ints]
  have eP : ∀ n : Int, ppD [inst C (pF q ns), .int n] = .tuple (intsD (fitsI (wholeI q) 1 (n + 1) ns)) := fun n => by
    show onPl (fun u ns => .tuple (intsD (fitsI u 1 (n + 1) ns))) [inst C (pF q ns)] = _
    exact on_pl _
  refine gs_cons ?_
  repeat infer_instance
  refine ⟨⟨hw, _, rfl, by first | decide | omega, by first | decide | omega⟩, fun o ms1 hR => ?_⟩
  clear hw
  obtain ⟨hw, mo, top, e, rfl, mo0, mo1⟩ := hR
  cases e
  refine to_ok ?_
  repeat infer_instance
  generalize hM : 1 + mo = m
  have m1 : 1 ≤ m ∧ m ≤ 40 := by omega
  clear hM
  ((with_reducible apply gf_lk); (eq_refl); (assumption); (eq_refl); (eq_refl); (eq_refl); (intro _; eq_refl))
  repeat infer_instance
  refine ⟨⟨by omega, by omega, by omega, by omega⟩, trivial, Nat.le_trans (show (m + 1 - 1).toNat ≤ 4000 by omega) (by decide), fun i => addB (wholeI q) (1 + (i : Int)) ns, fun i => .int (1 + (i : Int)), fun i hi B' => ?_, ?_⟩
  · repeat infer_instance
    refine ⟨⟨wholeI q, _, ns, rfl, pu, hns, by omega, by omega⟩, ?_⟩
    rw [eT]
    refine to_ok ?_
    refine ⟨_, rfl, rfl, ?_⟩
    cases hA : addB (wholeI q) (1 + (i : Int)) ns with
    | true =>
      rw [if_pos rfl]
      repeat infer_instance
    | false =>
      rw [if_neg (by decide)]
      exact rfl
  rw [fil_rg fun n => addB (wholeI q) n ns, show (rangeI 1 (m + 1)).filter (fun n => addB (wholeI q) n ns) = fitsI (wholeI q) 1 (m + 1) ns from rfl]
  repeat infer_instance
  refine ⟨⟨q, m, ns, rfl, hq, hns, by omega, by omega⟩, ?_⟩
  rw [eP]
  refine to_ok ?_
  repeat infer_instance
  refine ⟨⟨q, m, ns, rfl, hq, hns, by omega, by omega⟩, ?_⟩
  rw [eP]
  refine to_ok ?_
  have gf := gn_fit (u := wholeI q) (ns := ns) (m := m) (by omega)
  generalize fitsI (wholeI q) 1 (m + 1) ns = L at gf ⊢
  have gl : Good (.list [.tuple (intsD L), .tuple (intsD L)]) := ((gn_list (n := 50000) (k := 2) fun d hd => by
    rcases List.mem_cons.mp hd with rfl | hd
    · exact gf
    · rw [List.mem_singleton.mp hd]
      exact gf).mono (m := 200000) (l := 4) (by rw [List.length_cons, List.length_cons, List.length_nil]; omega) (by decide)).good (by decide) (by decide)
  repeat infer_instance
  refine ⟨gl, ?_⟩
  repeat infer_instance
  refine ⟨gl, ?_⟩
  repeat infer_instance
  rw [eqv_str, decide_eq_true rfl, if_neg (by decide)]
  repeat infer_instance
  repeat (with_reducible refine gs_nil ?_)
  show Gs _ _ _ _ _
  refine gs_cons ?_
  repeat infer_instance
  generalize decide (2 < ((intsD ns).length : Int)) = t
  cases t with
  | true =>
    rw [if_pos rfl]
    repeat infer_instance
    exact ⟨hw, rfl⟩
  | false =>
  rw [if_neg (by decide)]
  repeat infer_instance
  refine ⟨⟨hw, _, rfl, by first | decide | omega, by first | decide | omega⟩, fun o ms1 hR => ?_⟩
  clear hw
  obtain ⟨hw, e, top, e, rfl, e0, e1⟩ := hR
  cases e
  refine to_ok ?_
  repeat infer_instance
  generalize decide (0 < e) = t
  cases t with
  | true =>
    repeat infer_instance
    exact ⟨hw, rfl⟩
  | false =>
  repeat infer_instance
  repeat (with_reducible refine gs_nil ?_)
  show Gs _ _ _ _ _
  refine gs_cons ?_
  repeat infer_instance
  ((with_reducible apply gf_lk); (eq_refl); (assumption); (eq_refl); (eq_refl); (eq_refl); (intro _; eq_refl))
  repeat infer_instance
  refine ⟨⟨by omega, by omega, by omega, by omega⟩, trivial, Nat.le_trans (show ((3001 : Int) - 1).toNat ≤ 4000 by omega) (by decide), fun i => addB (wholeI q) (1 + (i : Int)) ns, fun i => .int (1 + (i : Int)), fun i hi B' => ?_, ?_⟩
  · repeat infer_instance
    refine ⟨⟨wholeI q, _, ns, rfl, pu, hns, by omega, by omega⟩, ?_⟩
    rw [eT]
    refine to_ok ?_
    refine ⟨_, rfl, rfl, ?_⟩
    cases hA : addB (wholeI q) (1 + (i : Int)) ns with
    | true =>
      rw [if_pos rfl]
      repeat infer_instance
    | false =>
      rw [if_neg (by decide)]
      exact rfl
  rw [show ((3001 : Int) - 1) = 3000 + 1 - 1 from rfl, fil_rg fun n => addB (wholeI q) n ns, show (rangeI 1 (3000 + 1)).filter (fun n => addB (wholeI q) n ns) = fitsI (wholeI q) 1 (3000 + 1) ns from rfl]
  repeat infer_instance
  refine ⟨⟨q, 3000, ns, rfl, hq, hns, by omega, by omega⟩, ?_⟩
  rw [eP]
  refine to_ok ?_
  have gf2 := gn_fit (u := wholeI q) (ns := ns) (m := 3000) (by omega)
  generalize fitsI (wholeI q) 1 (3000 + 1) ns = L2 at gf2 ⊢
  have g3 : Good (.tuple (intsD L2)) := gf2.good (by decide) (by decide)
  refine ⟨g3, ?_⟩
  repeat infer_instance
  refine ⟨g3, ?_⟩
  repeat infer_instance
  rw [eqv_str, decide_eq_true rfl]
  exact ⟨hw, rfl⟩
end
end K69
namespace K69
open PySem PySem.Spec PyProof.Rows L2 Tc Px Py
local macro_rules | `(tactic| fail "x32GE0") => `(tactic| first
  | ((with_reducible show GE _ _ (Expr.Call (Expr.Name _ _) [] [_] _) _ _); (with_reducible apply ge_callR1); (case F => with_reducible assumption); (exact ⟨rfl, rfl, rfl, rfl, rfl⟩); (first | with_reducible assumption | exact Bod.toCxt (by with_reducible assumption) | exact Cxt.blk (Bod.toCxt (by with_reducible assumption)) _ _ _ _ _ _ | exact Cxt.blk (Cxt.blk (Bod.toCxt (by with_reducible assumption)) _ _ _ _ _ _) _ _ _ _ _ _); (eq_refl); (eq_refl); (first | with_reducible assumption | exact Exc.none); rotate_left; (decide); (eq_refl); (eq_refl); (eq_refl); (eq_refl))
  )
local macro_rules | `(tactic| fail "x32G11") => `(tactic| first
  | ((with_reducible show G1 _ _ (Stmt.Assign [Expr.Tuple [Expr.Name _ _, Expr.Name _ _] _ _] (Expr.Tuple [Expr.BinOp (Expr.List _ _) Operator.Mult _ _, _] _ _) _) _ _); (with_reducible apply par_on); (with_reducible assumption); (assumption); (eq_refl); (eq_refl); (eq_refl); (eq_refl); (eq_refl); (eq_refl); (eq_refl); (eq_refl); (exact star_cons rfl); (exact star_cons rfl))
  )
local macro_rules | `(tactic| fail "x32G12") => `(tactic| first
  | ((with_reducible show G1 _ _ (Stmt.Assign [Expr.Tuple [Expr.Name _ _, Expr.Name _ _, Expr.Name _ _] _ _] (Expr.Tuple [_, _, _] _ _) _) _ _); (with_reducible apply par_n3); (with_reducible assumption); (assumption); (eq_refl); (eq_refl); (eq_refl); (eq_refl); (eq_refl); (eq_refl); (eq_refl); (eq_refl); (eq_refl); (eq_refl); (eq_refl); (eq_refl))
  )
local macro_rules | `(tactic| fail "x32G13") => `(tactic| first
  | ((with_reducible show G1 _ _ (Stmt.Assign [Expr.Tuple [Expr.Name _ _, Expr.Name _ _] _ _] (Expr.Tuple [Expr.List _ _, _] _ _) _) _ _); (with_reducible apply par_on); (with_reducible assumption); (assumption); (eq_refl); (eq_refl); (eq_refl); (eq_refl); (eq_refl); (eq_refl); (eq_refl); (eq_refl); (exact star_cons rfl); (exact star_cons rfl))
  )
local macro_rules | `(tactic| fail "x32G1") => `(tactic| first
  | ((with_reducible show G1 _ _ (Stmt.Assign [Expr.Tuple [Expr.Name _ _, Expr.Name _ _] _ _] (Expr.Tuple [Expr.BinOp (Expr.List _ _) Operator.Mult _ _, _] _ _) _) _ _); fail "x32G11")
  | ((with_reducible show G1 _ _ (Stmt.Assign [Expr.Tuple [Expr.Name _ _, Expr.Name _ _, Expr.Name _ _] _ _] (Expr.Tuple [_, _, _] _ _) _) _ _); fail "x32G12")
  | ((with_reducible show G1 _ _ (Stmt.Assign [Expr.Tuple [Expr.Name _ _, Expr.Name _ _] _ _] (Expr.Tuple [Expr.List _ _, _] _ _) _) _ _); fail "x32G13")
  )
local macro_rules | `(tactic| infer_instance) => `(tactic| first
  | ((with_reducible show GE _ _ (Expr.Compare _ [CmpOp.Is] [Expr.Constant (Const.bool _) _ _] _) _ _); (with_reducible refine ge_isB ?_))
  | ((with_reducible show GE _ _ (Expr.Call (Expr.Name _ _) [] [_] _) _ _); fail "x32GE0")
  | ((with_reducible show GT _ _ (Expr.Compare _ [CmpOp.IsNot] [Expr.Constant (Const.bool _) _ _] _) _ _); (with_reducible refine gt_notB ?_))
  | ((with_reducible show G1 _ _ _ _ _); fail "x32G1")
  | ((with_reducible show GQ _ _ false (Expr.Name _ _) _ _); (with_reducible refine gq_of ?_))
  | ((with_reducible show IsBD (PyData.bool _) (PyData.bool _) _); (refine ⟨_, _, rfl, rfl, ?_⟩))
  | ((with_reducible show NotBD (PyData.bool _) (PyData.bool _) _); (refine ⟨_, _, rfl, rfl, ?_⟩))
  | ((with_reducible show ∃ d1 d2 d3, _ = [d1, d2, d3] ∧ _); refine ⟨_, _, _, rfl, rfl, rfl, rfl, ?_⟩)
  | ((with_reducible show ∀ B0 : Bas, GE B0 _ _ _ _); intro _)
  | ((with_reducible show ∃ ds0, _ = (if false = true then PyData.list ds0 else PyData.tuple ds0) ∧ _); refine ⟨_, rfl, ?_⟩)
  )
section
variable {P : Program} {w : World} {K : PySem.W.Frag} {mg : Str → Option Value} {base : Heap}
theorem sc_does_fit_people : FnScope ["poll", "people"] ["poll", "people"] (defScope s_does_fit_people) := ⟨rfl, rfl, rfl, by decide +kernel, rfl, by decide +kernel, by decide +kernel⟩
theorem sc_lends_right : FnScope ["_law_well_here", "_law_unit", "_law_shares_here", "_law_mine", "_law_least_here", "_law_start", "_law_told", "_law_behind", "_law_many", "_law_is_fit"] ["_law_well_here", "_law_unit", "_law_shares_here", "_law_mine"] (defScope s_lends_right) := ⟨rfl, rfl, rfl, by decide +kernel, rfl, by decide +kernel, by decide +kernel⟩
def dfD : List PyData → PyData
  | [d, .int n] => onPl (fun u ns => .bool (addB u n ns)) [d]
  | _ => .none
theorem ok_does_fit {C : Addr} (F1 : Call P w K mg base (L2.CX P w) 4 "_stretches_for" ["poll", "people"] (spF 2 (preCs C) fun ds => .ok (csD ds))) {f : Addr} {fd : FuncData} (F : Fun K "does_fit_people" "does_fit_people" s_does_fit_people f fd) (sm : ∃ o, K.lookup sysModules = some o) (B : Gls mg) :
    FnG P w K mg base (L2.CX P w) 5 f fd ["poll", "people"] (spF 2 (preCs C) fun ds => .ok (dfD ds)) := by
  refine fn_data F sc_does_fit_people sm (by decide) _ _ fun cdv A outer s H E Bs ds hl hp c ex => ?_
  obtain ⟨q, p, ns, rfl, hq, hns, p0, p1⟩ := hp
  have nd := sc_does_fit_people.nd
  obtain ⟨pu, q0, q1⟩ := place_u hq
  rw [show dfD [inst C (pF q ns), .int p] = .bool (fitB p (stL p (wholeI q) ns)) from by
    rw [fit_is hns (by omega) p0]
    show onPl (fun u ns => .bool (addB u p ns)) [inst C (pF q ns)] = _
    exact on_pl _]
  refine gs_cons ?_
  repeat infer_instance
  refine ⟨⟨q, p, ns, rfl, hq, hns, p0, p1⟩, ?_⟩
  rw [cs_eq]
  unfold csO
  cases fitB p (stL p (wholeI q) ns)
  · rw [if_neg (by decide)]
    repeat infer_instance
    exact rfl
  · rw [if_pos rfl]
    repeat infer_instance
    exact rfl
def Ends (L F : PyData) : Prop := (L = .none ∨ ∃ i : Int, L = .int i ∧ 1 ≤ i ∧ i ≤ 20000) ∧ (F = .none ∨ ∃ i : Int, F = .int i ∧ 1 ≤ i ∧ i ≤ 20000)
theorem gn_end {L : PyData} (h : L = .none ∨ ∃ i : Int, L = .int i ∧ 1 ≤ i ∧ i ≤ 20000) : GN 20 0 L := by
  rcases h with rfl | ⟨i, rfl, h1, h2⟩
  · decide
  · exact (gn_int (by omega) (by omega)).mono (by decide) (by decide)
/-- the three cases: none, the multiples, all from some on -/
theorem end_cases {u : Int} {ns : List Int} (h : Shs u ns) (hu : unit u) :
    ((leastD u ns = .none ∧ FromD u ns = .none) ∧ ∀ n, 1 ≤ n → addB u n ns = false) ∨
    (∃ M, ((leastD u ns = .int M ∧ FromD u ns = .none) ∧ 1 ≤ M ∧ M ≤ 2000) ∧ ∀ n, 1 ≤ n → (addB u n ns = true ↔ M ∣ n)) ∨
    (∃ M N, ((leastD u ns = .int M ∧ FromD u ns = .int N) ∧ 1 ≤ M ∧ M ≤ 12001) ∧ 1 ≤ N ∧ N ≤ 12001 ∧ FromIs u ns N) := by
  have hu2 : 100 ≤ u ∧ u ≤ 1000 := by rcases hu with rfl | rfl <;> decide
  have u1 : 0 < u := by omega
  unfold leastD FromD
  cases hN : noneI u ns with
  | true =>
    exact .inl ⟨⟨if_pos rfl, if_pos (.inl rfl)⟩, fun n hn => none_fits h u1 hn hN⟩
  | false =>
  by_cases hM : (lsI ns).sum = 2 * u
  · have m2 : mulI u ns ≤ 2 * u := Int.ediv_le_self _ (by omega)
    refine .inr (.inl ⟨mulI u ns, ⟨⟨?_, if_pos (.inr hM)⟩, mul_pos h u1, by omega⟩, fun n hn => add_mul h u1 hn hM⟩)
    rw [if_neg (by decide), if_pos hM]
  · have r : (lsI ns).sum < 2 * u ∧ 2 * u < (bsI ns).sum := by
      unfold noneI at hN
      rw [Bool.or_eq_false_iff, decide_eq_false_iff_not, decide_eq_false_iff_not] at hN
      omega
    have gb := gap_bd h hu r.1 r.2
    have g1 := gap_pos h u1 r.2
    obtain ⟨M0, M1, _, _⟩ := first_ok (g := fun n => addB u n ns) (p := 1) (L := gapI u ns) g1 (by omega) (gap_fits h u1 r.1 r.2 (Int.le_refl _))
    have fi := from_is h u1 r.1 r.2
    have fl := from_le h u1 r.2
    refine .inr (.inr ⟨firstI (fun n => addB u n ns) 1, fromI u ns, ⟨⟨?_, ?_⟩, M0, by omega⟩, fi.1, by omega, fi⟩)
    · rw [if_neg (by decide), if_neg hM]
    · rw [if_neg (by intro z; rcases z with z | z; exact nomatch z; exact hM z)]
theorem ok_ends {C : Addr} (F1 : Call P w K mg base (L2.CX P w) 1 "_law_draw" ["_law_well_here", "_law_top"] (spP 1 preDraw RDraw)) (FLe : Call P w K mg base (L2.CX P w) 3 "_law_least" ["_law_unit", "_law_shares_here"] (spF 2 preSu fun ds => .ok (lpF ds))) (FFr : Call P w K mg base (L2.CX P w) 3 "_law_from" ["_law_unit", "_law_shares_here"] (spF 2 preSu fun ds => .ok (frF ds))) (FL1 : Call P w K mg base (L2.CX P w) 5 "least_people" ["poll"] (spF 1 (prePl C) fun ds => .ok (lpD ds))) (FR1 : Call P w K mg base (L2.CX P w) 5 "from_on" ["poll"] (spF 1 (prePl C) fun ds => .ok (frD ds))) (FL1R : CallR P w K mg base (L2.CX P w) 5 "least_people" ["poll"] (spF 1 (prePl C) fun ds => .ok (lpD ds)) ["poll"]) (FR1R : CallR P w K mg base (L2.CX P w) 5 "from_on" ["poll"] (spF 1 (prePl C) fun ds => .ok (frD ds)) ["poll"]) (FDf : Call P w K mg base (L2.CX P w) 5 "does_fit_people" ["poll", "people"] (spF 2 (preCs C) fun ds => .ok (dfD ds))) (FDR : CallR P w K mg base (L2.CX P w) 5 "does_fit_people" ["poll", "people"] (spF 2 (preCs C) fun ds => .ok (dfD ds)) ["people", "poll"]) {f : Addr} {fd : FuncData} (F : Fun K "_law_ends_right" "_law_ends_right" s_lends_right f fd) (sm : ∃ o, K.lookup sysModules = some o) (B : Gls mg) :
    FnG P w K mg base (L2.CX P w) 6 f fd ["_law_well_here", "_law_unit", "_law_shares_here", "_law_mine"] (spP 3 (preMi C) RTrue) := by
  refine fn_pail F sc_lends_right sm rfl _ _ fun cdv A outer s H E Bs ad ms ds hl hp c ex => ?_
  obtain ⟨hw, q, ns, rfl, hq, hns⟩ := hp
  obtain ⟨pu, q0, q1⟩ := place_u hq
  have hu2 : 100 ≤ wholeI q ∧ wholeI q ≤ 1000 := by omega
  have u1 : 0 < wholeI q := by omega
  have nd := sc_lends_right.nd
  have pp : prePl C [inst C (pF q ns)] := ⟨q, ns, rfl, hq, hns⟩
  have ps : preSu [.int (wholeI q), .tuple (intsD ns)] := ⟨_, ns, rfl, pu, hns⟩
  have eL : lpF [.int (wholeI q), .tuple (intsD ns)] = leastD (wholeI q) ns := by
    show leastD (wholeI q) (asIs (intsD ns)) = _
    rw [asIs_ints]
  have eF : frF [.int (wholeI q), .tuple (intsD ns)] = FromD (wholeI q) ns := by
    show FromD (wholeI q) (asIs (intsD ns)) = _
    rw [asIs_ints]
  have eL2 : lpD [inst C (pF q ns)] = leastD (wholeI q) ns := on_pl _
  have eF2 : frD [inst C (pF q ns)] = FromD (wholeI q) ns := on_pl _
  have eD : ∀ n : Int, dfD [inst C (pF q ns), .int n] = .bool (addB (wholeI q) n ns) := fun n => by
    show onPl (fun u ns => .bool (addB u n ns)) [inst C (pF q ns)] = _
    exact on_pl _
  have ec := end_cases hns pu
  have gE : Ends (leastD (wholeI q) ns) (FromD (wholeI q) ns) := by
    rcases ec with ⟨⟨a, b⟩, _⟩ | ⟨M, ⟨⟨a, b⟩, m1, m2⟩, _⟩ | ⟨M, N, ⟨⟨a, b⟩, m1, m2⟩, n1, n2, _⟩
    · rw [a, b]
      exact ⟨.inl rfl, .inl rfl⟩
    · rw [a, b]
      exact ⟨.inr ⟨M, rfl, by omega, by omega⟩, .inl rfl⟩
    · rw [a, b]
      exact ⟨.inr ⟨M, rfl, by omega, by omega⟩, .inr ⟨N, rfl, by omega, by omega⟩⟩
  generalize leastD (wholeI q) ns = L at ec gE eL eL2
  generalize FromD (wholeI q) ns = Fr at ec gE eF eF2
  refine gs_cons ?_
  repeat infer_instance
  refine ⟨ps, ?_⟩
  rw [eL]
  refine to_ok ?_
  repeat infer_instance
  refine ⟨ps, ?_⟩
  rw [eF]
  refine to_ok ?_
  repeat infer_instance
  refine ⟨pp, ?_⟩
  rw [eL2]
  refine to_ok ?_
  repeat infer_instance
  refine ⟨pp, ?_⟩
  rw [eL2]
  refine to_ok ?_
  repeat infer_instance
  refine ⟨pp, ?_⟩
  rw [eF2]
  refine to_ok ?_
  repeat infer_instance
  refine ⟨pp, ?_⟩
  rw [eF2]
  refine to_ok ?_
  repeat infer_instance
  have gl : Good (.list [L, L, Fr, Fr]) := ((gn_list (n := 20) (k := 0) fun d hd => by
    simp only [List.mem_cons, List.not_mem_nil, or_false] at hd
    rcases hd with rfl | rfl | rfl | rfl
    · exact gn_end gE.1
    · exact gn_end gE.1
    · exact gn_end gE.2
    · exact gn_end gE.2).mono (m := 200) (l := 4) (by show 4 * (20 + 2) + 2 ≤ 200; decide) (by decide)).good (by decide) (by decide)
  refine ⟨gl, ?_⟩
  repeat infer_instance
  refine ⟨gl, ?_⟩
  repeat infer_instance
  rw [eqv_str, decide_eq_true rfl, if_neg (by decide)]
  repeat infer_instance
  repeat (with_reducible refine gs_nil ?_)
  show Gs _ _ _ _ _
  refine gs_cons ?_
  repeat infer_instance
  rcases ec with ⟨⟨rfl, rfl⟩, hno⟩ | ⟨M, ⟨⟨rfl, rfl⟩, m1, m2⟩, hmu⟩ | ⟨M, N, ⟨⟨rfl, rfl⟩, m1, m2⟩, n1, n2, hfr⟩
  · repeat infer_instance
    rw [if_neg (show ¬ (!isN PyData.none) = true from by decide)]
    repeat infer_instance
    repeat (with_reducible refine gs_nil ?_)
    show Gs _ _ _ _ _
    refine gs_cons ?_
    repeat infer_instance
    refine ⟨⟨hw, _, rfl, by first | decide | omega, by first | decide | omega⟩, fun o ms1 hR => ?_⟩
    clear hw
    obtain ⟨hw, k, top, e, rfl, k0, k1⟩ := hR
    cases e
    refine to_ok ?_
    repeat infer_instance
    rw [if_neg (show ¬ (!isN PyData.none) = true from by decide)]
    repeat infer_instance
    refine ⟨⟨q, _, ns, rfl, hq, hns, by omega, by omega⟩, ?_⟩
    rw [eD]
    refine to_ok ?_
    rw [hno _ (by omega)]
    refine ⟨show Good (PyData.bool false) from by decide, ?_⟩
    repeat infer_instance
    refine ⟨show Good (PyData.bool false) from by decide, ?_⟩
    repeat infer_instance
    rw [eqv_str, decide_eq_true rfl, if_neg (by decide)]
    repeat infer_instance
    repeat (with_reducible refine gs_nil ?_)
    show Gs _ _ _ _ _
    refine gs_cons ?_
    repeat infer_instance
    rw [if_pos (show isN PyData.none = true from rfl)]
    first | exact ⟨hw, rfl⟩ | exact ⟨_, rfl, hw, rfl⟩
  · repeat infer_instance
    rw [if_neg (show ¬ (!isN PyData.none) = true from by decide)]
    repeat infer_instance
    repeat (with_reducible refine gs_nil ?_)
    show Gs _ _ _ _ _
    refine gs_cons ?_
    repeat infer_instance
    refine ⟨⟨hw, _, rfl, by first | decide | omega, by first | decide | omega⟩, fun o ms1 hR => ?_⟩
    clear hw
    obtain ⟨hw, k, top, e, rfl, k0, k1⟩ := hR
    cases e
    refine to_ok ?_
    repeat infer_instance
    rw [if_pos (show (!isN (PyData.int M)) = true from rfl)]
    repeat infer_instance
    have eB : addB (wholeI q) (1 + k) ns = decide ((1 + k) % M = 0) := by
      refine Bool.eq_iff_iff.mpr ?_
      rw [hmu _ (by omega), decide_eq_true_eq]
      exact Int.dvd_iff_emod_eq_zero
    refine ⟨⟨q, _, ns, rfl, hq, hns, by omega, by omega⟩, ?_⟩
    rw [eD]
    refine to_ok ?_
    rw [eB, eqv_int]
    have gb : Good (PyData.bool (decide ((1 + k) % M = 0))) := by
      cases decide ((1 + k) % M = 0) <;> decide
    refine ⟨gb, ?_⟩
    repeat infer_instance
    refine ⟨gb, ?_⟩
    repeat infer_instance
    rw [eqv_str, decide_eq_true rfl, if_neg (by decide)]
    repeat infer_instance
    repeat (with_reducible refine gs_nil ?_)
    show Gs _ _ _ _ _
    refine gs_cons ?_
    repeat infer_instance
    rw [if_neg (show ¬ isN (PyData.int M) = true from fun z => (nomatch z))]
    repeat infer_instance
    refine ⟨⟨q, _, ns, rfl, hq, hns, by omega, by omega⟩, ?_⟩
    rw [eD]
    refine to_ok ?_
    rw [(hmu (3 * M) (by omega)).mpr (Int.dvd_mul_left 3 M)]
    repeat infer_instance
    first | exact ⟨hw, rfl⟩ | exact ⟨_, rfl, hw, rfl⟩
  · repeat infer_instance
    rw [if_pos (show (!isN (PyData.int N)) = true from rfl)]
    repeat infer_instance
    refine ⟨⟨hw, _, rfl, by first | decide | omega, by first | decide | omega⟩, fun o ms1 hR => ?_⟩
    clear hw
    obtain ⟨hw, k, top, e, rfl, k0, k1⟩ := hR
    cases e
    refine to_ok ?_
    repeat infer_instance
    refine ⟨⟨q, _, ns, rfl, hq, hns, by omega, by omega⟩, ?_⟩
    rw [eD]
    refine to_ok ?_
    repeat infer_instance
    rw [hfr.2.1 N (Int.le_refl _)]
    repeat infer_instance
    show if (!decide (true = true)) = true then _ else _
    rw [if_neg (show ¬ (!decide (true = true)) = true from by decide)]
    repeat infer_instance
    refine ⟨⟨q, _, ns, rfl, hq, hns, by omega, by omega⟩, ?_⟩
    rw [eD]
    refine to_ok ?_
    rw [hfr.2.1 (N + k) (by omega)]
    repeat infer_instance
    show if (!decide (true = true)) = true then _ else _
    rw [if_neg (show ¬ (!decide (true = true)) = true from by decide)]
    repeat infer_instance
    repeat (with_reducible refine gs_nil ?_)
    show Gs _ _ _ _ _
    refine gs_cons ?_
    repeat infer_instance
    rw [eqv_int]
    by_cases c1 : N = 1
    · rw [decide_eq_true c1, if_pos rfl]
      first | exact ⟨hw, rfl⟩ | exact ⟨_, rfl, hw, rfl⟩
    · rw [decide_eq_false c1, if_neg (by decide)]
      repeat infer_instance
      refine ⟨⟨q, _, ns, rfl, hq, hns, by omega, by omega⟩, ?_⟩
      rw [eD]
      refine to_ok ?_
      rw [hfr.2.2.resolve_left c1]
      repeat infer_instance
      first | exact ⟨hw, rfl⟩ | exact ⟨_, rfl, hw, rfl⟩
end
end K69
namespace K69
open PySem PySem.Spec PyProof.Rows L2 Tc Px Py
local macro_rules | `(tactic| fail "x33G10") => `(tactic| first
  | ((with_reducible show G1 _ _ (Stmt.Assign [Expr.Tuple [Expr.Name _ _, Expr.Name _ _] _ _] (Expr.Tuple [Expr.BinOp (Expr.List _ _) Operator.Mult _ _, _] _ _) _) _ _); (with_reducible apply par_on); (with_reducible assumption); (assumption); (eq_refl); (eq_refl); (eq_refl); (eq_refl); (eq_refl); (eq_refl); (eq_refl); (eq_refl); (exact star_cons rfl); (exact star_cons rfl))
  )
local macro_rules | `(tactic| fail "x33G11") => `(tactic| first
  | ((with_reducible show G1 _ _ (Stmt.Assign [Expr.Tuple [Expr.Name _ _, Expr.Name _ _, Expr.Name _ _] _ _] (Expr.Tuple [_, _, _] _ _) _) _ _); (with_reducible apply par_n3); (with_reducible assumption); (assumption); (eq_refl); (eq_refl); (eq_refl); (eq_refl); (eq_refl); (eq_refl); (eq_refl); (eq_refl); (eq_refl); (eq_refl); (eq_refl); (eq_refl))
  )
local macro_rules | `(tactic| fail "x33G12") => `(tactic| first
  | ((with_reducible show G1 _ _ (Stmt.Assign [Expr.Tuple [Expr.Name _ _, Expr.Name _ _] _ _] (Expr.Tuple [Expr.List _ _, _] _ _) _) _ _); (with_reducible apply par_on); (with_reducible assumption); (assumption); (eq_refl); (eq_refl); (eq_refl); (eq_refl); (eq_refl); (eq_refl); (eq_refl); (eq_refl); (exact star_cons rfl); (exact star_cons rfl))
  )
local macro_rules | `(tactic| fail "x33G1") => `(tactic| first
  | ((with_reducible show G1 _ _ (Stmt.Assign [Expr.Tuple [Expr.Name _ _, Expr.Name _ _] _ _] (Expr.Tuple [Expr.BinOp (Expr.List _ _) Operator.Mult _ _, _] _ _) _) _ _); fail "x33G10")
  | ((with_reducible show G1 _ _ (Stmt.Assign [Expr.Tuple [Expr.Name _ _, Expr.Name _ _, Expr.Name _ _] _ _] (Expr.Tuple [_, _, _] _ _) _) _ _); fail "x33G11")
  | ((with_reducible show G1 _ _ (Stmt.Assign [Expr.Tuple [Expr.Name _ _, Expr.Name _ _] _ _] (Expr.Tuple [Expr.List _ _, _] _ _) _) _ _); fail "x33G12")
  )
local macro_rules | `(tactic| fail "x33GE3") => `(tactic| first
  | ((with_reducible show GE _ _ (Expr.Call (Expr.Name _ _) [] [_] _) _ _); (with_reducible apply ge_callR1); (case F => with_reducible assumption); (exact ⟨rfl, rfl, rfl, rfl, rfl⟩); (first | with_reducible assumption | exact Bod.toCxt (by with_reducible assumption) | exact Cxt.blk (Bod.toCxt (by with_reducible assumption)) _ _ _ _ _ _ | exact Cxt.blk (Cxt.blk (Bod.toCxt (by with_reducible assumption)) _ _ _ _ _ _) _ _ _ _ _ _); (eq_refl); (eq_refl); (first | with_reducible assumption | exact Exc.none); rotate_left; (decide); (eq_refl); (eq_refl); (eq_refl); (eq_refl))
  )
local macro_rules | `(tactic| infer_instance) => `(tactic| first
  | ((with_reducible show G1 _ _ _ _ _); fail "x33G1")
  | ((with_reducible show GQ _ _ false (Expr.Name _ _) _ _); (with_reducible refine gq_of ?_))
  | ((with_reducible show GE _ _ (Expr.Call (Expr.Name _ _) [] [_] _) _ _); fail "x33GE3")
  | ((with_reducible show ∃ d1 d2 d3, _ = [d1, d2, d3] ∧ _); refine ⟨_, _, _, rfl, rfl, rfl, rfl, ?_⟩)
  | ((with_reducible show ∀ B0 : Bas, GE B0 _ _ _ _); intro _)
  | ((with_reducible show ∃ ds0, _ = (if false = true then PyData.list ds0 else PyData.tuple ds0) ∧ _); refine ⟨_, rfl, ?_⟩)
  )
section
variable {P : Program} {w : World} {K : PySem.W.Frag} {mg : Str → Option Value} {base : Heap}
theorem sc_lright : FnScope ["_law_well_here", "_law_turn", "_law_unit", "_law_many", "_law_shares_here", "_law_mine"] ["_law_well_here"] (defScope s_lright) := ⟨rfl, rfl, rfl, by decide +kernel, rfl, by decide +kernel, by decide +kernel⟩
theorem ok_right {C : Addr} (M : MakeD P w K mg base 5 "Poll" C 2 ["self", "places", "shares"] prePoll fun ds => .ok (pollF ds)) (F1 : Call P w K mg base (L2.CX P w) 1 "_law_draw" ["_law_well_here", "_law_top"] (spP 1 preDraw RDraw)) (FS : Call P w K mg base (L2.CX P w) 3 "_law_shares" ["_law_well_here", "_law_unit", "_law_many"] (spP 2 preSh RSh)) (FN : Call P w K mg base (L2.CX P w) 7 "_law_numbers_right" ["_law_well_here", "_law_unit", "_law_shares_here", "_law_mine"] (spP 3 (preMi C) RTrue)) (FE : Call P w K mg base (L2.CX P w) 6 "_law_ends_right" ["_law_well_here", "_law_unit", "_law_shares_here", "_law_mine"] (spP 3 (preMi C) RTrue)) {f : Addr} {fd : FuncData} (F : Fun K "_law_right" "_law_right" s_lright f fd) (sm : ∃ o, K.lookup sysModules = some o) (B : Gls mg) :
    FnG P w K mg base (L2.CX P w) 8 f fd ["_law_well_here"] (spP 0 (fun ps _ => Well ps) RTrue) := by
  refine fn_pail F sc_lright sm rfl _ _ fun cdv A outer s H E Bs ad ms ds hl hw c ex => ?_
  have nd := sc_lright.nd
  obtain rfl : ds = [] := List.eq_nil_of_length_eq_zero hl
  refine gs_cons ?_
  repeat infer_instance
  refine ⟨by decide, by decide, fun i Γ => ∃ (ms : List PyData) (s1 s2 s3 s4 s5 : Sl), Γ = [.own ad ms, s1, s2, s3, s4, s5] ∧ Well ms, ⟨ms, _, _, _, _, _, rfl, hw⟩, fun _ _ _ _ => trivial, ?_, ?_⟩
  · clear hw
    rintro i Γ hi ⟨ms, s1, s2, s3, s4, s5, rfl, hw⟩
    repeat infer_instance
    refine ⟨⟨hw, _, rfl, by first | decide | omega, by first | decide | omega⟩, fun o ms1 hR => ?_⟩
    clear hw
    obtain ⟨hw, e, top, e, rfl, e0, e1⟩ := hR
    cases e
    refine to_ok ?_
    repeat infer_instance
    rw [eqv_int]
    by_cases h : e = 0
    · rw [decide_eq_true h, if_pos rfl]
      repeat infer_instance
      rw [eqv_int, decide_eq_false (show ¬ (1000 : Int) = 100 by decide), if_neg (by decide)]
      repeat infer_instance
      refine ⟨⟨hw, _, rfl, by first | decide | omega, by first | decide | omega⟩, fun o ms1 hR => ?_⟩
      clear hw
      obtain ⟨hw, m, top, e, rfl, m0, m1⟩ := hR
      cases e
      refine to_ok ?_
      repeat infer_instance
      refine ⟨⟨hw, 1000, 2 + m, rfl, .inr rfl, by omega, by omega⟩, fun o ms2 hR => ?_⟩
      clear hw
      obtain ⟨hw, u', m', ns, e, rfl, hS⟩ := hR
      cases e
      refine to_ok ?_
      repeat infer_instance
      rw [eqv_int, decide_eq_true rfl, if_pos rfl]
      repeat infer_instance
      refine ⟨⟨1, ns, rfl, .inr rfl, hS⟩, ?_⟩
      show (OutI.ok (pF 1 (asIs (intsD ns)))).to _ _
      rw [asIs_ints]
      refine ⟨rfl, ?_⟩
      repeat infer_instance
      refine ⟨⟨hw, 1, ns, rfl, .inr rfl, hS⟩, fun o ms3 hR => ?_⟩
      clear hw
      obtain ⟨hw, rfl⟩ := hR
      refine to_ok ?_
      refine ⟨_, rfl, ?_⟩
      repeat infer_instance
      refine ⟨⟨hw, 1, ns, rfl, .inr rfl, hS⟩, fun o ms4 hR => ?_⟩
      clear hw
      obtain ⟨hw, rfl⟩ := hR
      refine to_ok ?_
      refine ⟨_, rfl, ?_⟩
      repeat infer_instance
      repeat (with_reducible refine gs_nil ?_)
      exact ⟨_, _, _, _, _, _, rfl, hw⟩
    · rw [decide_eq_false h, if_neg (by decide)]
      repeat infer_instance
      rw [eqv_int, decide_eq_true rfl, if_pos rfl]
      repeat infer_instance
      refine ⟨⟨hw, _, rfl, by first | decide | omega, by first | decide | omega⟩, fun o ms1 hR => ?_⟩
      clear hw
      obtain ⟨hw, m, top, e, rfl, m0, m1⟩ := hR
      cases e
      refine to_ok ?_
      repeat infer_instance
      refine ⟨⟨hw, 100, 2 + m, rfl, .inl rfl, by omega, by omega⟩, fun o ms2 hR => ?_⟩
      clear hw
      obtain ⟨hw, u', m', ns, e, rfl, hS⟩ := hR
      cases e
      refine to_ok ?_
      repeat infer_instance
      rw [eqv_int, decide_eq_false (show ¬ (100 : Int) = 1000 by decide), if_neg (by decide)]
      repeat infer_instance
      refine ⟨⟨0, ns, rfl, .inl rfl, hS⟩, ?_⟩
      show (OutI.ok (pF 0 (asIs (intsD ns)))).to _ _
      rw [asIs_ints]
      refine ⟨rfl, ?_⟩
      repeat infer_instance
      refine ⟨⟨hw, 0, ns, rfl, .inl rfl, hS⟩, fun o ms3 hR => ?_⟩
      clear hw
      obtain ⟨hw, rfl⟩ := hR
      refine to_ok ?_
      refine ⟨_, rfl, ?_⟩
      repeat infer_instance
      refine ⟨⟨hw, 0, ns, rfl, .inl rfl, hS⟩, fun o ms4 hR => ?_⟩
      clear hw
      obtain ⟨hw, rfl⟩ := hR
      refine to_ok ?_
      refine ⟨_, rfl, ?_⟩
      repeat infer_instance
      repeat (with_reducible refine gs_nil ?_)
      exact ⟨_, _, _, _, _, _, rfl, hw⟩
  · rintro Γ ⟨ms, s1, s2, s3, s4, s5, rfl, hw⟩
    repeat infer_instance
    first | exact ⟨hw, rfl⟩ | exact ⟨_, rfl, hw, rfl⟩
end
end K69
namespace K69
open PySem PySem.Spec PyProof.Rows L2 Tc Px Py
section
variable {P : Program} {w : World} {K : PySem.W.Frag} {mg : Str → Option Value} {base : Heap}
theorem sc_law : FnScope ["_law_script", "_law_k"] ["_law_script"] (defScope s_law) := ⟨rfl, rfl, rfl, by decide +kernel, rfl, by decide +kernel, by decide +kernel⟩
theorem g_law : ∀ x ∈ (["all", "range"] : List Str), (defScope s_law).names.lookup x = some .globalImplicit := by decide +kernel
def spLaw (K : PySem.W.Frag) : Sp := fun vs H Q _ => ∃ (a : Addr) (ns : List Int), vs = [.ref a] ∧ SqL K H a (ns.map V.int) ∧ ns.length ≤ 63 ∧ ∀ H', Q (.bl true) H'
theorem sq_ext {H H' : Hp} {a : Addr} {xs : List V} (x : Same H H') (h : SqL K H a xs) : SqL K H' a xs := by
  rcases h with (h | ⟨o, h⟩) | h
  · exact .inl (.inl (x _ _ h))
  · exact .inl (.inr ⟨o, x _ _ h⟩)
  · exact .inr h
theorem passF {X : Cx} : Passes (L2.CX X.prog X.w) X (fun _ _ _ => False) := fun pins σ => pass_never (σ := σ) pins
theorem ok_law {f : Addr} {fd : FuncData} (F : Fun K "law" "law" s_law f fd) (B : Gls mg)
    (DJ : Call P w K mg base CX0 1 "_law_well" ["_law_script", "_law_k"] (spWell K)) (DR : Call P w K mg base (L2.CX P w) 8 "_law_right" ["_law_well_here"] (spP 0 (fun ps _ => Well ps) RTrue)) :
    FnG P w K mg base CX0 9 f fd ["_law_script"] (spLaw K) := by
  refine Fun.okG F sc_law (fun vs H Q E h => ?_) (fun cdv A outer s H vs Q E hr hgd h => ?_)
  · obtain ⟨a, ns, rfl, _⟩ := h
    rfl
  · obtain ⟨a, ns, rfl, hS, hl, hQ⟩ := h
    refine ⟨_, pss_one (ps_ret (pe_callB (cr_all rfl) (g_law _ (.head _)) B.all (by decide +kernel) (pa_cons
      (pe_lc (own := [("_law_k", 1)]) (g := gName 1) (te := tCall (spP 0 (fun ps _ => Well ps) RTrue) [] (fun _ _ _ => False) (tCons (tCall (spWell K) [] (fun _ _ _ => False) (tCons (tVar 0) (tCons (tVar 1) tNil))) tNil)) rfl sc_law.nd
        (pi_range1 (g_law _ (.tail _ (.head _))) B.range (pa_cons pe_int pa_nil))
        (blkOk_by (own := [("_law_k", 1)]) (N := ["_law_script", "_law_k"]) (sc := defScope s_law) (by decide +kernel)) (fun _ _ _ _ _ => pg_name (i := 1) sc_law.nd rfl (.inl rfl)) (fun _ _ _ _ _ => pts_nil)
        (fun _ _ _ _ _ => pe_do DR (hr.mono (by decide)) hgd (by rfl) passF (pa_cons (pe_do DJ (hr.mono (by decide)) hgd (by rfl) pass0 (pa_cons (pv 0) (pa_cons (pv 1) pa_nil))) pa_nil))) pa_nil))), ?_⟩
    refine ⟨2, rfl, by omega, by omega, fun D hD => lc_range (lo := 0) (n := 2) (fun i H' => Same H H' ∧ H' D = some (.lst ((List.replicate i true).map V.bl)))
      ⟨Same.new hD, upd_same⟩ (fun i H' hi p => ?_) (fun H' p => ?_)⟩
    · obtain ⟨x, hd⟩ := p
      refine ⟨rfl, _, rfl, _, rfl, a, ns, i, by show [V.ref a, V.int (0 + (i : Int))] = _; rw [Int.zero_add], by omega, sq_ext x hS, hl, fun H3 p hp s3 ⟨u, v, hj, u0, v0, v1⟩ => ?_⟩
      refine ⟨fun _ => none, p, _, [], [.int u, .int v, .int 0], [], rfl, fun _ _ z => (nomatch z), rfl, hj, .cons (.int _) (.cons (.int _) (.cons (.int _) .nil)), .nil, rfl, ⟨u, v, 0, rfl, u0, v0, v1⟩, fun o ms' r v' Hs' H4 pv' k4 _ _ _ _ => ?_⟩
      obtain ⟨_, rfl⟩ := r
      intro dv
      cases dv
      have pD : D ≠ p := ne_of_none hd hp
      have hd3 := s3 _ _ hd
      have hd4 := k4 _ _ hd3 pD
      refine ⟨_, hd4, ?_, fun c o e => (upd_ne fun z => by rw [z, hD] at e; cases e).trans (k4 c o (s3 _ _ (x c o e)) (ne_of_none (x c o e) hp)), ?_⟩
      · rw [List.length_map, List.length_replicate]
        exact Nat.lt_of_lt_of_le (show i < 4 by omega) (by decide)
      · rw [upd_same, List.replicate_succ', List.map_append] <;> rfl
    · obtain ⟨x, hd⟩ := p
      refine ⟨D, List.replicate 2 true, rfl, .inl (.inl hd), ?_⟩
      exact hQ H'
end
end K69
namespace K69
open PySem PySem.Spec PyProof.Rows L2 Tc Px Py
theorem allB {α : Type} {l : List α} {p : α → Bool} (h : l.all p = true) {x : α} (hx : x ∈ l) : p x = true := List.all_eq_true.mp h x hx
section
variable {K : PySem.W.Frag} {h : Heap} {mg : Str → Option Value}
structure Parts (K : PySem.W.Frag) : Prop where
  funs' : ∀ x ∈ funs, (He.Fa.glo x).ok K = true
  free : ∀ x ∈ frees, (He.Fa.free x).ok K = true
  nums' : ∀ e ∈ nums, (He.Fa.int e.1 e.2).ok K = true
  whg : (He.Fa.glo "_WHOLES").ok K = true
  wht : He.tupB K "_WHOLES" [He.Dv.int 100, He.Dv.int 1000] = true
  cmb : He.eqO (PySem.W.nsIn K mainGlobals "gcd") (some (some (.builtin "math.gcd"))) = true
  vg : (He.Fa.glo "Poll").ok K = true
  mkk : mkB K "Poll" = true
  ins : insB K "Poll" = true
  na : ∀ f ∈ fields, NoAttr K (He.ga K "Poll") f
  pr : ∀ p ∈ props, propB K "Poll" p.1 = true
  sm : (K.lookup sysModules).isSome = true
theorem partsF (c : SaysC F fn K) : Parts K := by
  obtain ⟨z1, z⟩ := He.ba c.fact
  obtain ⟨z2, z⟩ := He.ba z
  obtain ⟨z3, z⟩ := He.ba z
  obtain ⟨z4, z⟩ := He.ba z
  obtain ⟨z5, z⟩ := He.ba z
  obtain ⟨z6, z⟩ := He.ba z
  obtain ⟨z7, z⟩ := He.ba z
  obtain ⟨z8, z9⟩ := He.ba z
  obtain ⟨z4, z4'⟩ := He.ba z4
  obtain ⟨z6, z6'⟩ := He.ba z6
  obtain ⟨z6', z6''⟩ := He.ba z6'
  exact ⟨fun x hx => allB z1 hx, fun x hx => allB z2 hx, fun e he => allB z3 he, z4, z4', z5, z6, z6', z6'', fun f hf => He.noat_ok (allB z7 hf), fun p hp => allB z8 hp, z9⟩
theorem writ_of (X : K.In h) (G : h.Ns mainGlobals mg) (c : Parts K) : Writ K mg "_WHOLES" (He.ga K "_WHOLES") [.int 100, .int 1000] :=
  ⟨He.glo_ok X G c.whg, _, fun H => He.tupB_ok c.wht H, fun _ => .cons (.int _) (.cons (.int _) .nil)⟩
theorem bltn_ok (X : K.In h) (G : h.Ns mainGlobals mg) {x : Str} {v : Value} (e : He.eqO (PySem.W.nsIn K mainGlobals x) (some (some v)) = true) : mg x = some v := PySem.W.mg_of X G (He.eqO_ok e)
theorem kls_of (c : Parts K) : KlsD K (He.ga K "Poll") := by
  obtain ⟨z1, z⟩ := He.ba c.ins
  obtain ⟨z2, z⟩ := He.ba z
  obtain ⟨z3, z⟩ := He.ba z
  obtain ⟨z4, z⟩ := He.ba z
  obtain ⟨z5, z⟩ := He.ba z
  obtain ⟨z6, z7⟩ := He.ba z
  exact ⟨⟨mkB_cls c.mkk, He.eqO_ok z1, He.eqO_ok z2, of_decide_eq_true z3, of_decide_eq_true z4, of_decide_eq_true z5⟩, z6, of_decide_eq_true z7⟩
end
section
variable {P : Program} {w : World} {K : PySem.W.Frag} {h base : Heap} {mg : Str → Option Value} {f : Addr}
theorem prop_of {j : Nat} {n fld : Str} (s : SaysC F fn K) (c : Parts K) {st : Stmt} {q : Str} (i : Nat) (hi : fn[i]? = some ⟨.prop "Poll" n, n, q, st⟩) (hn : propB K "Poll" n = true) (S : FnScope ["self"] ["self"] (defScope st)) {p1 p2 p3 : Pos} (hb : defBody st = [.Return (some (.Attribute (.Name "self" p1) fld p2)) p3]) (no : NoAttr K (He.ga K "Poll") fld) (bd : ∀ (kV doc pm : Value) (an : Option Addr) (cdv ct : Value) (us : List Value), us.length = 1 → bindArgs (PySem.W.fnOf n q (defArgs st) (defBody st) (defScope st) .none kV doc pm an cdv ct) ⟨us, []⟩ = pure ((["self"] : List Str).zip us)) : PropD P w K mg base (He.ga K "Poll") n fld (j + 1) := by
  obtain ⟨fd, Fx⟩ := s.fun_ i hi
  have bb := Fx.binds (ps := ["self"]) bd
  obtain ⟨oc, od, kV, doc, pm, an, cdv, ct, osl, e, lk, hcd⟩ := id Fx.ex
  subst e
  exact ⟨⟨_, _, _, propB_ok hn, fn_getter lk hcd S rfl hb (mkB_cls c.mkk) no, bb⟩, mkB_cls c.mkk⟩
theorem facts (X : K.In h) (G : h.Ns mainGlobals mg) (hfa : mg ("law" : Str) = some (.ref f)) (s : SaysC F fn K) :
    ∃ fd : FuncData, (∀ (s : Shared) (v : Value), BindsTo s fd ⟨[v], []⟩ [("_law_script", v)]) ∧
      ∀ base : Heap, K.In base → base.Ns mainGlobals mg → FnG P w K mg base CX0 9 f fd ["_law_script"] (spLaw K) := by
  have c := partsF s
  have fr : ∀ x : Str, x ∈ frees → mg x = none := fun x hx => He.free_ok X G (c.free x hx)
  have B : Gls mg := ⟨fr _ (by decide +kernel), fr _ (by decide +kernel), fr _ (by decide +kernel), fr _ (by decide +kernel), fr _ (by decide +kernel), fr _ (by decide +kernel), fr _ (by decide +kernel), fr _ (by decide +kernel), fr _ (by decide +kernel), fr _ (by decide +kernel), fr _ (by decide +kernel), fr _ (by decide +kernel), fr _ (by decide +kernel), fr _ (by decide +kernel), fr _ (by decide +kernel), fr _ (by decide +kernel), fr _ (by decide +kernel), fr _ (by decide +kernel), fr _ (by decide +kernel), fr _ (by decide +kernel), fr _ (by decide +kernel)⟩
  have WW := writ_of X G c
  have KV := kls_of c
  have CL := mkB_cls c.mkk
  have gV : mg "Poll" = some (.ref (He.ga K "Poll")) := He.glo_ok X G c.vg
  have ms : ∃ t, mg "MOST_SHARES" = some (.int 6 t) := He.int_ok X G (c.nums' ("MOST_SHARES", 6) (.head _))
  have ls : ∃ t, mg "_LEAST_SHARES" = some (.int 2 t) := He.int_ok X G (c.nums' ("_LEAST_SHARES", 2) (.tail _ (.head _)))
  have gG : mg "gcd" = some (.builtin "math.gcd") := bltn_ok X G c.cmb
  have mm : ∃ t, mg "_MOST_MEANT" = some (.int 3000 t) := He.int_ok X G (c.nums' ("_MOST_MEANT", 3000) (.tail _ (.tail _ (.head _))))
  have at_ : ∃ t, mg "_AT_ONCE" = some (.int 64 t) := He.int_ok X G (c.nums' ("_AT_ONCE", 64) (.tail _ (.tail _ (.tail _ (.head _)))))
  have SM := Option.isSome_iff_exists.mp c.sm
  have gl : ∀ x : Str, x ∈ funs → mg x = some (.ref (He.ga K x)) := fun x hx => He.glo_ok X G (c.funs' x hx)
  obtain ⟨fd0, F0⟩ := s.fun_ 0 (w := .glo "is_integer") (st := s_is_integer) (x := "is_integer") (q := "is_integer") rfl
  obtain ⟨fd1, F1⟩ := s.fun_ 1 (w := .glo "is_number") (st := s_is_number) (x := "is_number") (q := "is_number") rfl
  obtain ⟨fd2, F2⟩ := s.fun_ 2 (w := .glo "_unit") (st := s_unit) (x := "_unit") (q := "_unit") rfl
  obtain ⟨fd3, F3⟩ := s.fun_ 3 (w := .glo "_number_with") (st := s_number_with) (x := "_number_with") (q := "_number_with") rfl
  obtain ⟨fd4, F4⟩ := s.fun_ 4 (w := .glo "read_number") (st := s_read_number) (x := "read_number") (q := "read_number") rfl
  obtain ⟨fd5, F5⟩ := s.fun_ 5 (w := .glo "need_people") (st := s_need_people) (x := "need_people") (q := "need_people") rfl
  obtain ⟨fd6, F6⟩ := s.fun_ 6 (w := .glo "need_most") (st := s_need_most) (x := "need_most") (q := "need_most") rfl
  obtain ⟨fd7, F7⟩ := s.fun_ 7 (w := .glo "whole_of") (st := s_whole_of) (x := "whole_of") (q := "whole_of") rfl
  obtain ⟨fd8, F8⟩ := s.fun_ 8 (w := .glo "_need_poll_places") (st := s_need_poll_places) (x := "_need_poll_places") (q := "_need_poll_places") rfl
  obtain ⟨fd9, F9⟩ := s.fun_ 9 (w := .glo "_is_share") (st := s_is_share) (x := "_is_share") (q := "_is_share") rfl
  obtain ⟨fd10, F10⟩ := s.fun_ 10 (w := .glo "_need_shares") (st := s_need_shares) (x := "_need_shares") (q := "_need_shares") rfl
  obtain ⟨fd11, F11⟩ := s.fun_ 11 (w := .glo "need_poll") (st := s_need_poll) (x := "need_poll") (q := "need_poll") rfl
  obtain ⟨fd12, F12⟩ := s.fun_ 12 (w := .glo "counts_with") (st := s_counts_with) (x := "counts_with") (q := "counts_with") rfl
  obtain ⟨fd13, F13⟩ := s.fun_ 13 (w := .glo "_count_stretches") (st := s_count_stretches) (x := "_count_stretches") (q := "_count_stretches") rfl
  obtain ⟨fd14, F14⟩ := s.fun_ 14 (w := .glo "_stretches_for") (st := s_stretches_for) (x := "_stretches_for") (q := "_stretches_for") rfl
  obtain ⟨fd15, F15⟩ := s.fun_ 15 (w := .glo "does_fit_people") (st := s_does_fit_people) (x := "does_fit_people") (q := "does_fit_people") rfl
  obtain ⟨fd16, F16⟩ := s.fun_ 16 (w := .glo "_twice") (st := s_twice) (x := "_twice") (q := "_twice") rfl
  obtain ⟨fd17, F17⟩ := s.fun_ 17 (w := .glo "_leasts") (st := s_leasts) (x := "_leasts") (q := "_leasts") rfl
  obtain ⟨fd18, F18⟩ := s.fun_ 18 (w := .glo "_behinds") (st := s_behinds) (x := "_behinds") (q := "_behinds") rfl
  obtain ⟨fd19, F19⟩ := s.fun_ 19 (w := .glo "_fits_none") (st := s_fits_none) (x := "_fits_none") (q := "_fits_none") rfl
  obtain ⟨fd20, F20⟩ := s.fun_ 20 (w := .glo "_fits_multiples") (st := s_fits_multiples) (x := "_fits_multiples") (q := "_fits_multiples") rfl
  obtain ⟨fd21, F21⟩ := s.fun_ 21 (w := .glo "_multiplied") (st := s_multiplied) (x := "_multiplied") (q := "_multiplied") rfl
  obtain ⟨fd22, F22⟩ := s.fun_ 22 (w := .glo "_behind_gaps") (st := s_behind_gaps) (x := "_behind_gaps") (q := "_behind_gaps") rfl
  obtain ⟨fd23, F23⟩ := s.fun_ 23 (w := .glo "_rounded_up") (st := s_rounded_up) (x := "_rounded_up") (q := "_rounded_up") rfl
  obtain ⟨fd24, F24⟩ := s.fun_ 24 (w := .glo "_adds_up") (st := s_adds_up) (x := "_adds_up") (q := "_adds_up") rfl
  obtain ⟨fd25, F25⟩ := s.fun_ 25 (w := .glo "_passing") (st := s_passing) (x := "_passing") (q := "_passing") rfl
  obtain ⟨fd26, F26⟩ := s.fun_ 26 (w := .glo "_fitting") (st := s_fitting) (x := "_fitting") (q := "_fitting") rfl
  obtain ⟨fd27, F27⟩ := s.fun_ 27 (w := .glo "people_for") (st := s_people_for) (x := "people_for") (q := "people_for") rfl
  obtain ⟨fd28, F28⟩ := s.fun_ 28 (w := .glo "from_on") (st := s_from_on) (x := "from_on") (q := "from_on") rfl
  obtain ⟨fd29, F29⟩ := s.fun_ 29 (w := .glo "_with_counts") (st := s_with_counts) (x := "_with_counts") (q := "_with_counts") rfl
  obtain ⟨fd30, F30⟩ := s.fun_ 30 (w := .glo "least_people") (st := s_least_people) (x := "least_people") (q := "least_people") rfl
  obtain ⟨fd31, F31⟩ := s.fun_ 31 (w := .glo "_law_well") (st := s_lwell) (x := "_law_well") (q := "_law_well") rfl
  obtain ⟨fd32, F32⟩ := s.fun_ 32 (w := .glo "_law_draw") (st := s_ldraw) (x := "_law_draw") (q := "_law_draw") rfl
  obtain ⟨fd33, F33⟩ := s.fun_ 33 (w := .glo "_law_dealt") (st := s_ldealt) (x := "_law_dealt") (q := "_law_dealt") rfl
  obtain ⟨fd34, F34⟩ := s.fun_ 34 (w := .glo "_law_near") (st := s_lnear) (x := "_law_near") (q := "_law_near") rfl
  obtain ⟨fd35, F35⟩ := s.fun_ 35 (w := .glo "_law_shares") (st := s_lshares) (x := "_law_shares") (q := "_law_shares") rfl
  obtain ⟨fd36, F36⟩ := s.fun_ 36 (w := .glo "_law_tried") (st := s_ltried) (x := "_law_tried") (q := "_law_tried") rfl
  obtain ⟨fd37, F37⟩ := s.fun_ 37 (w := .glo "_law_fits") (st := s_lfits) (x := "_law_fits") (q := "_law_fits") rfl
  obtain ⟨fd38, F38⟩ := s.fun_ 38 (w := .glo "_law_sums") (st := s_lsums) (x := "_law_sums") (q := "_law_sums") rfl
  obtain ⟨fd39, F39⟩ := s.fun_ 39 (w := .glo "_law_far") (st := s_lfar) (x := "_law_far") (q := "_law_far") rfl
  obtain ⟨fd40, F40⟩ := s.fun_ 40 (w := .glo "_law_least") (st := s_lleast) (x := "_law_least") (q := "_law_least") rfl
  obtain ⟨fd41, F41⟩ := s.fun_ 41 (w := .glo "_law_from") (st := s_lfrom) (x := "_law_from") (q := "_law_from") rfl
  obtain ⟨fd42, F42⟩ := s.fun_ 42 (w := .glo "_law_numbers_right") (st := s_lnumbers_right) (x := "_law_numbers_right") (q := "_law_numbers_right") rfl
  obtain ⟨fd43, F43⟩ := s.fun_ 43 (w := .glo "_law_ends_right") (st := s_lends_right) (x := "_law_ends_right") (q := "_law_ends_right") rfl
  obtain ⟨fd44, F44⟩ := s.fun_ 44 (w := .glo "_law_right") (st := s_lright) (x := "_law_right") (q := "_law_right") rfl
  obtain ⟨fd45, F45⟩ := s.fun_ 45 (w := .glo "law") (st := s_law) (x := "law") (q := "law") rfl
  obtain ⟨fi, Fi⟩ := s.fun_ 46 (w := .meth "Poll" "__init__") (st := m_init) (x := "__init__") (q := "Poll.__init__") rfl
  have e := hfa.symm.trans (gl "law" (by decide +kernel))
  cases e
  refine ⟨fd45, fun s v => ?_, fun base _ _ => ?_⟩
  · obtain ⟨oc, od, kV, doc, pm, an, cdv, ct, osl, rfl, lk, hcd⟩ := F45.ex
    exact .of_eq rfl
  have DP : PropD P w K mg base (He.ga K "Poll") "places" "_places" 1 := prop_of s c (st := m_places) (q := "Poll.places") 47 rfl (c.pr (pl1 "places" 2) (by unfold props; exact .head _)) ⟨rfl, rfl, rfl, by decide +kernel, rfl, by decide +kernel, by decide +kernel⟩ rfl (c.na "_places" (by unfold fields; exact .head _)) (fun kV doc pm an cdv ct us hl => match us, hl with | [u], _ => rfl)
  have DS : PropD P w K mg base (He.ga K "Poll") "shares" "_shares" 1 := prop_of s c (st := m_shares) (q := "Poll.shares") 48 rfl (c.pr (pl1 "shares" 3) (by unfold props; exact .tail _ (.head _))) ⟨rfl, rfl, rfl, by decide +kernel, rfl, by decide +kernel, by decide +kernel⟩ rfl (c.na "_shares" (by unfold fields; exact .tail _ (.head _))) (fun kV doc pm an cdv ct us hl => match us, hl with | [u], _ => rfl)
  have D_is_integer := Call.of F0 (ok_is_integer (P := P) (w := w) (base := base) F0 SM B) (gl "is_integer" (by decide +kernel)) (fun kV doc pm an cdv ct us hl => match us, hl with | [u], _ => rfl)
  have D_is_number := Call.of F1 (ok_is_number D_is_integer F1 SM B) (gl "is_number" (by decide +kernel)) (fun kV doc pm an cdv ct us hl => match us, hl with | [u], _ => rfl)
  have D_need_people := Call.of F5 (ok_need_people D_is_integer F5 SM B) (gl "need_people" (by decide +kernel)) (fun kV doc pm an cdv ct us hl => match us, hl with | [u, v], _ => rfl)
  have D_need_most := Call.of F6 (ok_need_most D_is_integer mm F6 SM B) (gl "need_most" (by decide +kernel)) (fun kV doc pm an cdv ct us hl => match us, hl with | [u], _ => rfl)
  have D_whole_of := Call.of F7 (ok_whole_of (P := P) (w := w) (base := base) WW F7 SM B) (gl "whole_of" (by decide +kernel)) (fun kV doc pm an cdv ct us hl => match us, hl with | [u], _ => rfl)
  have D_need_poll_places := Call.of F8 (ok_need_poll_places WW D_is_number F8 SM B) (gl "_need_poll_places" (by decide +kernel)) (fun kV doc pm an cdv ct us hl => match us, hl with | [u], _ => rfl)
  have D_is_share := Call.of F9 (ok_is_share D_is_number F9 SM B) (gl "_is_share" (by decide +kernel)) (fun kV doc pm an cdv ct us hl => match us, hl with | [u, v], _ => rfl)
  have D_counts_with := Call.of F12 (ok_counts_with (P := P) (w := w) (base := base) F12 SM B) (gl "counts_with" (by decide +kernel)) (fun kV doc pm an cdv ct us hl => match us, hl with | [u, v, x1], _ => rfl)
  have D_need_shares := Call.of F10 (ok_need_shares ms ls D_is_share F10 SM B) (gl "_need_shares" (by decide +kernel)) (fun kV doc pm an cdv ct us hl => match us, hl with | [u, v], _ => rfl)
  have D_need_poll := Call.of F11 (ok_need_poll (P := P) (w := w) (base := base) gV KV F11 SM B) (gl "need_poll" (by decide +kernel)) (fun kV doc pm an cdv ct us hl => match us, hl with | [u], _ => rfl)
  have MV : MakeD P w K mg base 5 "Poll" (He.ga K "Poll") 2 ["self", "places", "shares"] prePoll (fun ds => .ok (pollF ds)) := ⟨⟨_, fi, mkB_mk c.mkk, ok_init CL (c.na "_places" (.head _)) (c.na "_shares" (.tail _ (.head _))) (c.na "_text" (.tail _ (.tail _ (.head _)))) D_need_poll_places D_need_shares D_whole_of Fi SM B, Fi.binds (fun kV doc pm an cdv ct us hl => match us, hl with | [u, v, x1], _ => rfl)⟩, gV⟩
  have D_count_stretches := Call.of F13 (ok_count_stretches DP DS D_whole_of D_counts_with F13 SM B) (gl "_count_stretches" (by decide +kernel)) (fun kV doc pm an cdv ct us hl => match us, hl with | [u, v], _ => rfl)
  have D_stretches_for := Call.of F14 (ok_stretches_for D_need_poll D_need_people D_count_stretches F14 SM B) (gl "_stretches_for" (by decide +kernel)) (fun kV doc pm an cdv ct us hl => match us, hl with | [u, v], _ => rfl)
  have ok_does_fit_people := ok_does_fit D_stretches_for F15 SM B
  have D_does_fit_people := Call.of F15 (ok_does_fit_people) (gl "does_fit_people" (by decide +kernel)) (fun kV doc pm an cdv ct us hl => match us, hl with | [u, v], _ => rfl)
  have D_does_fit_peopleR : CallR P w K mg base (L2.CX P w) 5 "does_fit_people" ["poll", "people"] (spF 2 (preCs (He.ga K "Poll")) fun ds => .ok (dfD ds)) ["people", "poll"] := by
    refine ⟨_, fd15, ok_does_fit_people, (gl "does_fit_people" (by decide +kernel)), F15.kp, fun s us hl => ?_⟩
    obtain ⟨oc, od, kV, doc, pm, an, cdv, ct, osl, rfl, lk, hcd⟩ := F15.ex
    match us, hl with
    | [u, v], _ => exact .of_eq rfl
  have D_twice := Call.of F16 (ok_twice DP D_whole_of F16 SM B) (gl "_twice" (by decide +kernel)) (fun kV doc pm an cdv ct us hl => match us, hl with | [u], _ => rfl)
  have D_leasts := Call.of F17 (ok_leasts DS F17 SM B) (gl "_leasts" (by decide +kernel)) (fun kV doc pm an cdv ct us hl => match us, hl with | [u], _ => rfl)
  have D_behinds := Call.of F18 (ok_behinds DS F18 SM B) (gl "_behinds" (by decide +kernel)) (fun kV doc pm an cdv ct us hl => match us, hl with | [u], _ => rfl)
  have D_fits_none := Call.of F19 (ok_fits_none D_twice D_leasts D_behinds F19 SM B) (gl "_fits_none" (by decide +kernel)) (fun kV doc pm an cdv ct us hl => match us, hl with | [u], _ => rfl)
  have D_fits_multiples := Call.of F20 (ok_fits_multiples D_twice D_leasts F20 SM B) (gl "_fits_multiples" (by decide +kernel)) (fun kV doc pm an cdv ct us hl => match us, hl with | [u], _ => rfl)
  have D_multiplied := Call.of F21 (ok_multiplied gG D_twice D_leasts F21 SM B) (gl "_multiplied" (by decide +kernel)) (fun kV doc pm an cdv ct us hl => match us, hl with | [u], _ => rfl)
  have D_behind_gaps := Call.of F22 (ok_behind_gaps D_twice D_leasts D_behinds F22 SM B) (gl "_behind_gaps" (by decide +kernel)) (fun kV doc pm an cdv ct us hl => match us, hl with | [u], _ => rfl)
  have D_rounded_up := Call.of F23 (ok_rounded_up (P := P) (w := w) (base := base) F23 SM B) (gl "_rounded_up" (by decide +kernel)) (fun kV doc pm an cdv ct us hl => match us, hl with | [u, v, x1], _ => rfl)
  have D_adds_up := Call.of F24 (ok_adds_up D_twice D_leasts D_behinds D_rounded_up F24 SM B) (gl "_adds_up" (by decide +kernel)) (fun kV doc pm an cdv ct us hl => match us, hl with | [u, v], _ => rfl)
  have D_passing := Call.of F25 (ok_passing D_rounded_up F25 SM B) (gl "_passing" (by decide +kernel)) (fun kV doc pm an cdv ct us hl => match us, hl with | [u, v, x1, x2], _ => rfl)
  have D_fitting := Call.of F26 (ok_fitting D_twice D_leasts D_behinds D_passing F26 SM B) (gl "_fitting" (by decide +kernel)) (fun kV doc pm an cdv ct us hl => match us, hl with | [u, v, x1], _ => rfl)
  have D_with_counts := Call.of F29 (ok_with_counts (P := P) (w := w) (base := base) F29 SM B) (gl "_with_counts" (by decide +kernel)) (fun kV doc pm an cdv ct us hl => match us, hl with | [u, v, x1], _ => rfl)
  have ok_least_people := ok_least_people D_need_poll D_twice D_leasts D_rounded_up D_fits_none D_fits_multiples D_multiplied D_with_counts D_adds_up F30 SM B
  have D_least_people := Call.of F30 (ok_least_people) (gl "least_people" (by decide +kernel)) (fun kV doc pm an cdv ct us hl => match us, hl with | [u], _ => rfl)
  have D_least_peopleR : CallR P w K mg base (L2.CX P w) 5 "least_people" ["poll"] (spF 1 (prePl (He.ga K "Poll")) fun ds => .ok (lpD ds)) ["poll"] := by
    refine ⟨_, fd30, ok_least_people, (gl "least_people" (by decide +kernel)), F30.kp, fun s us hl => ?_⟩
    obtain ⟨oc, od, kV, doc, pm, an, cdv, ct, osl, rfl, lk, hcd⟩ := F30.ex
    match us, hl with
    | [u], _ => exact .of_eq rfl
  have ok_people_for := ok_people_for D_need_poll D_need_most D_least_people D_fits_multiples D_behind_gaps D_fitting F27 SM B
  have D_people_for := Call.of F27 (ok_people_for) (gl "people_for" (by decide +kernel)) (fun kV doc pm an cdv ct us hl => match us, hl with | [u, v], _ => rfl)
  have D_people_forR : CallR P w K mg base (L2.CX P w) 6 "people_for" ["poll", "most"] (spF 2 (prePp (He.ga K "Poll")) fun ds => .ok (ppD ds)) ["most", "poll"] := by
    refine ⟨_, fd27, ok_people_for, (gl "people_for" (by decide +kernel)), F27.kp, fun s us hl => ?_⟩
    obtain ⟨oc, od, kV, doc, pm, an, cdv, ct, osl, rfl, lk, hcd⟩ := F27.ex
    match us, hl with
    | [u, v], _ => exact .of_eq rfl
  have ok_from_on := ok_from_on at_ D_need_poll D_fits_none D_fits_multiples D_behind_gaps D_fitting F28 SM B
  have D_from_on := Call.of F28 (ok_from_on) (gl "from_on" (by decide +kernel)) (fun kV doc pm an cdv ct us hl => match us, hl with | [u], _ => rfl)
  have D_from_onR : CallR P w K mg base (L2.CX P w) 5 "from_on" ["poll"] (spF 1 (prePl (He.ga K "Poll")) fun ds => .ok (frD ds)) ["poll"] := by
    refine ⟨_, fd28, ok_from_on, (gl "from_on" (by decide +kernel)), F28.kp, fun s us hl => ?_⟩
    obtain ⟨oc, od, kV, doc, pm, an, cdv, ct, osl, rfl, lk, hcd⟩ := F28.ex
    match us, hl with
    | [u], _ => exact .of_eq rfl
  have D_lwell := Call.of F31 (.of (ok_well (P := P) (w := w) (base := base) F31 B)) (gl "_law_well" (by decide +kernel)) (fun kV doc pm an cdv ct us hl => match us, hl with | [u, v], _ => rfl)
  have D_ldraw := Call.of F32 (ok_draw (P := P) (w := w) (base := base) F32 SM B) (gl "_law_draw" (by decide +kernel)) (fun kV doc pm an cdv ct us hl => match us, hl with | [u, v], _ => rfl)
  have D_ldealt := Call.of F33 (ok_dealt D_ldraw F33 SM B) (gl "_law_dealt" (by decide +kernel)) (fun kV doc pm an cdv ct us hl => match us, hl with | [u, v, x1], _ => rfl)
  have D_lnear := Call.of F34 (ok_near (P := P) (w := w) (base := base) F34 SM B) (gl "_law_near" (by decide +kernel)) (fun kV doc pm an cdv ct us hl => match us, hl with | [u, v, x1], _ => rfl)
  have D_lshares := Call.of F35 (ok_shares D_ldraw D_ldealt D_lnear F35 SM B) (gl "_law_shares" (by decide +kernel)) (fun kV doc pm an cdv ct us hl => match us, hl with | [u, v, x1], _ => rfl)
  have D_ltried := Call.of F36 (ok_tried D_lnear F36 SM B) (gl "_law_tried" (by decide +kernel)) (fun kV doc pm an cdv ct us hl => match us, hl with | [u, v, x1], _ => rfl)
  have D_lfits := Call.of F37 (ok_fits (P := P) (w := w) (base := base) F37 SM B) (gl "_law_fits" (by decide +kernel)) (fun kV doc pm an cdv ct us hl => match us, hl with | [u, v, x1], _ => rfl)
  have D_lsums := Call.of F38 (ok_sums (P := P) (w := w) (base := base) F38 SM B) (gl "_law_sums" (by decide +kernel)) (fun kV doc pm an cdv ct us hl => match us, hl with | [u, v], _ => rfl)
  have D_lfar := Call.of F39 (ok_far D_lsums F39 SM B) (gl "_law_far" (by decide +kernel)) (fun kV doc pm an cdv ct us hl => match us, hl with | [u, v], _ => rfl)
  have D_lleast := Call.of F40 (ok_least D_lsums D_lfar D_lfits F40 SM B) (gl "_law_least" (by decide +kernel)) (fun kV doc pm an cdv ct us hl => match us, hl with | [u, v], _ => rfl)
  have D_lfrom := Call.of F41 (ok_from D_lsums D_lfar D_lfits F41 SM B) (gl "_law_from" (by decide +kernel)) (fun kV doc pm an cdv ct us hl => match us, hl with | [u, v], _ => rfl)
  have D_lnumbers_right := Call.of F42 (ok_numbers D_ldraw D_ltried D_lfits D_people_for D_people_forR F42 SM B) (gl "_law_numbers_right" (by decide +kernel)) (fun kV doc pm an cdv ct us hl => match us, hl with | [u, v, x1, x2], _ => rfl)
  have D_lends_right := Call.of F43 (ok_ends D_ldraw D_lleast D_lfrom D_least_people D_from_on D_least_peopleR D_from_onR D_does_fit_people D_does_fit_peopleR F43 SM B) (gl "_law_ends_right" (by decide +kernel)) (fun kV doc pm an cdv ct us hl => match us, hl with | [u, v, x1, x2], _ => rfl)
  have D_lright := Call.of F44 (ok_right MV D_ldraw D_lshares D_lnumbers_right D_lends_right F44 SM B) (gl "_law_right" (by decide +kernel)) (fun kV doc pm an cdv ct us hl => match us, hl with | [u], _ => rfl)
  exact ok_law F45 B D_lwell D_lright
end
end K69
end
open PySem PySem.W PySem.Calls PyProof.Rows
theorem PySem.Challenge.cw_toldcounts_k69_whole_numbers_of_people_holds : PySem.Challenge.rw_toldcounts_k69_whole_numbers_of_people.Holds := by
  w_on; o_law
  refine HandSHeadRun.head_imp (r := OpenLaw.row PySem.Challenge.rw_toldcounts_k69_whole_numbers_of_people) (q := view K69.R.prog [0, 66]) (H := K69.hk) (ob := K69.ob)
    (M := 14000) (loose := K69.loose) (d := HandSHeadRun.topDef K69.R.prog 66) (kwd := []) K69.ob_eq
    K69.run (by kernel_rfl) (by kernel_rfl) (by kernel_rfl) (by rfl) (by first | assumption | decide +kernel) (by decide +kernel)
    ⟨rfl, rfl, rfl, rfl, rfl, by decide +kernel⟩ ?hw ?hc
  case hw => w_witness2
  case hc =>
    refine Tc.walk_endTG (l := PySem.Challenge.rw_toldcounts_k69_whole_numbers_of_people) (n := 63) (k := 9) (x := "_law_script") (CX := fun _ => L2.CX0)
      rfl (by decide) (by kernel_rfl) ⟨rfl, by decide, by decide⟩ ?F (fun _ _ _ _ _ z => z)
    intro w mg fa h Y G hmg0
    obtain ⟨K, KX, c⟩ := Y
    have nm : (HandSHeadRun.topDef K69.R.prog 66).name = ("law" : PySem.Str) := by kernel_rfl
    rw [nm] at hmg0
    obtain ⟨fd, hb, hF⟩ := K69.facts (P := (PySem.Challenge.rw_toldcounts_k69_whole_numbers_of_people).prog) (w := w) KX G hmg0 c.core
    exact ⟨K, fd, [], K69.spLaw K, KX, hb, ⟨fun p hp => (nomatch hp), fun p hp => (nomatch hp), fun p hp => (nomatch hp)⟩, fun base k1 k2 _ => hF base k1 k2, fun H a ns hl _ hS => ⟨a, ns, rfl, hS, hl, fun _ => rfl⟩⟩
