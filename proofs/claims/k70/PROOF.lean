import PyProof.Rows.All
import Wide.All
import OpenK.AllK
import Wide.FinOn
import HandS.ForMost
import HandS.ForExc
import HandS.ExcInit
import HandS.ExcField
import HandS.IsInst
import HandS.StrMore
import HandS.FStr
import HandS.Conv
import KE.KExcInit
import HandS.ExcIs
import KE.KExcIs
import HandS.ExcValue
import PyProof.ExcBaseAll.ValueError
import PyProof.ExcBaseAll.LookupError
import PyProof.ExcBaseAll.ArithmeticError
import KE.KStateDown
import HandS.Defaults
import HandS.Head0
import HandS.Head1
import HandS.Head2
import HandS.HeadHook1
import KE.KTryMore
import HandS.Exc
import HandS.Lambda
import HandS.WordsExc
import HandS.SetFor
import HandS.Evl
import PyProof.EqKinds
import HandS.Walk
import PyProof.Rows.Chain
import HandS.HeadHook4
import HandS.EndTab
import HandS.Property
import HandS.ClsMeth
import HandS.MakeKwOnly
import HandS.HeadHook2
import HandS.Head3
import HandS.Codes
import HandS.Text
import KE.IntTextText
import PyProof.Rows.RegFStrParts
import PyProof.ListStr
import HandS.TryMany
import HandS.Comp
import HandS.Iter
import KE.KxIndex
import HandS.WideBits
import HandS.NoneIn
import HandS.TupAny
import HandS.TupMul
import HandS.Zip
import KE.DataMinMax
import HandS.List
import HandS.SortInts
import HandS.RaiseMore
import HandS.Dict
import HandS.HotCalls
import HandS.Star
import HandS.Style
import PyProof.EnumMake
import PyProof.Draws
import KE.GoesNew
import HandS.Rev
import KE.KxText
import HandS.Deep
import HandS.OwnEq
import PyProof.InstEq
import HandS.Gcd
import KE.KMathGC
import HandS.HeadEnd
import PySem.Challenge.RW_toldcounts_k70_whole_ranges_and_numbers
set_option Elab.async false
set_option linter.all false
set_option maxRecDepth 100000
set_option maxHeartbeats 0
/-! Defs that may show things: no repr runs around them (the guards are known to be none). -/
namespace Tc
open PySem PySem.Spec PyProof.Rows L2
/-- as a def's promise, for callers that no repr runs around -/
structure FnG (P : Program) (w : World) (K : PySem.W.Frag) (mg : Str → Option Value) (base : Heap)
    (CX : CXT) (k : Nat) (f : Addr) (fd : FuncData) (ps : List Str) (sp : Sp) : Prop where
  len : ∀ vs H Q E, sp vs H Q E → vs.length = ps.length
  run : ∀ (A : Around) (outer : List Env) (s : Shared) (H : Hp) (args : Args) (us : List Value)
    (vs : List V) (Q : VK) (E : XK), Room k A → A.guards = some [] →
    Env0 P w K mg base A outer s H → BindsTo s fd args (ps.zip us) → Vals vs us → sp vs H Q E →
    codeAny (model P w) A (.call (.ref f) args) (CR CX outer P w H s Q E) s
theorem FnG.of {P : Program} {w : World} {K : PySem.W.Frag} {mg : Str → Option Value} {base : Heap}
    {CX : CXT} {k : Nat} {f : Addr} {fd : FuncData} {ps : List Str} {sp : Sp}
    (F : FnOk P w K mg base CX k f fd ps sp) : FnG P w K mg base CX k f fd ps sp :=
  ⟨F.len, fun A o s H args us vs Q E hr _ => F.run A o s H args us vs Q E hr⟩
theorem FnG.mono {P : Program} {w : World} {K : PySem.W.Frag} {mg : Str → Option Value} {base : Heap}
    {CX : CXT} {j k : Nat} {f : Addr} {fd : FuncData} {ps : List Str} {sp : Sp}
    (F : FnG P w K mg base CX j f fd ps sp) (h : j ≤ k) : FnG P w K mg base CX k f fd ps sp :=
  ⟨F.len, fun A o s H args us vs Q E hr => F.run A o s H args us vs Q E (hr.mono h)⟩
section
variable {P : Program} {w : World} {K : PySem.W.Frag} {mg : Str → Option Value} {base : Heap}
theorem Fun.okG {CX : CXT} {x qual : Str} {st : Stmt} {f : Addr} {fd : FuncData} {N ps : List Str}
    {k : Nat} {sp : Sp} (F : Fun K x qual st f fd) (S : FnScope N ps (defScope st))
    (len : ∀ vs H Q E, sp vs H Q E → vs.length = ps.length)
    (hbody : ∀ (cdv : Value) (A : Around) (outer : List Env) (s : Shared) (H : Hp) (vs : List V)
      (Q : VK) (E : XK), Room k (A.deeper (envOfC qual (defScope st) s.heap.objs.size f cdv)) →
      (A.deeper (envOfC qual (defScope st) s.heap.objs.size f cdv)).guards = some [] →
      sp vs H Q E →
      ∃ t, PSs (cxOf CX P w K mg base N qual (defScope st) f cdv A outer s H E) (defBody st) t ∧
        t { nx := fun _ H' => Q .non H', rt := Q } (start N vs) H) :
    FnG P w K mg base CX (k + 1) f fd ps sp := by
  obtain ⟨oc, od, kV, doc, pm, an, cdv, ct, osl, rfl, lk, hcd⟩ := F.ex
  refine ⟨len, ?_⟩
  intro A outer s H args us vs Q E hr hgd e0 hb r hsp
  have vl := len _ _ _ _ hsp
  have kin : K.In s.heap := e0.mod.kin.keeps (fun b o e => (e0.bs b o e).1)
  have nlim : s.heap.NoLimit := e0.mod.nolimit.keeps (fun b o e => (e0.bs b o e).1)
  have kinds : ∀ y ∈ ps.zip us, (defScope st).names.lookup y.1 = some .local ∨
      ((defScope st).names.lookup y.1 = some .cell ∧
        ((cellsFrom (s.heap.objs.size + 1) (defScope st).names []).lookup y.1).isSome = true) := by
    rintro ⟨n, v⟩ hy
    cases S.par n (List.of_mem_zip hy).1 with
    | inl q => exact .inl q
    | inr q => exact .inr ⟨q, PySem.W.cellsFrom_some _ _ _ (.inl q)⟩
  refine codeAny_call_function hr.depth (kin _ _ lk) rfl S.co S.gen rfl
    (PySem.W.codeRec_of kin hcd) (hb _ _ _ _ ?_)
  refine wpAny_newFunctionEnv_cells S.kind kinds (fun env he s1 x => ?_)
  subst he
  refine ⟨nlim.keeps x.toInCall.keep, codeAny_func ?_⟩
  obtain ⟨t, ht, hq⟩ := hbody cdv A outer s H vs Q E (hr.deeper _) hgd hsp
  have I := inv_start (CX := CX) (P := P) (w := w) (mg := mg) (base := base) (E := E) S hr.hd e0 vl r x
  refine wpAny_mono (ht.run [] s1 (start N vs) H _ I hq) (fun fl s' hs => ?_) (fun e s' hs => hs)
  have close : ∀ {σ' : L2.St} {H' : Hp} {v : V} {u : Value},
      Inv (cxOf CX P w K mg base N qual (defScope st) f cdv A outer s H E) [] σ' H' s' →
      RelV v u → Q v H' → CE outer P w H s Q u s' := by
    intro σ' H' v u J rv q
    exact ⟨v, H', J.os, J.bare, J.base, J.hok, rv, q⟩
  cases fl with
  | ret u => obtain ⟨v, σ', H', J, rv, q⟩ := hs; exact close J rv q
  | next => obtain ⟨σ', H', J, q⟩ := hs; exact close (v := V.non) (u := Value.none) J rfl q
  | brk => obtain ⟨_, _, _, q⟩ := hs; exact False.elim q
  | cont => obtain ⟨_, _, _, q⟩ := hs; exact False.elim q
end
section
variable {X : Cx} {CX : CXT} {k : Nat} {f : Addr} {fd : FuncData} {ps : List Str} {sp : Sp}
  {dvs : List V} {ds : List Value} {E : XK} {x : Str} {p pos : Pos} {e : Expr} {es : List Expr} {t : TA}
theorem run_fnG {pins : List (Addr × Obj)} {σ : L2.St} {H : Hp} {s : Shared} {Q : VK}
    {us : List Value} {vs : List V} (F : FnG X.prog X.w X.K X.mg X.base CX k f fd ps sp)
    (hr : Room k X.A) (hgd : X.A.guards = some []) (hb : Binds X.K fd ps ds) (hd : Vals dvs ds)
    (hx : Passes CX X E) (I : Inv X pins σ H s) (r : Vals vs us) (h : sp (vs ++ dvs) H Q E) :
    wpAny (model X.prog X.w) X.A (call (.ref f) us) (EP X pins σ Q) X.xe s := by
  have both : Vals (vs ++ dvs) (us ++ ds) := r.append hd
  have hl : (us ++ ds).length = ps.length := both.length ▸ F.len _ _ _ _ h
  have main := F.run X.A X.stack s H ⟨us, []⟩ (us ++ ds) (vs ++ dvs) Q E hr hgd I.env0
    (hb s us I.kIn hl) both h
  refine wpAny_call (codeAny_mono main ?_)
  intro res s' hq
  cases res with
  | error er => exact hx pins σ H s er s' I hq
  | ok fl =>
    cases fl with
    | ret u => exact I.after hq
    | next | brk | cont => exact False.elim hq
theorem pe_callG (F : FnG X.prog X.w X.K X.mg X.base CX k f fd ps sp) (hr : Room k X.A)
    (hgd : X.A.guards = some []) (hg : Gl X x) (hm : X.mg x = some (.ref f))
    (hk : PySem.W.keepIn X.K (.ref f) = true) (hb : Binds X.K fd ps ds) (hd : Vals dvs ds)
    (hx : Passes CX X E) (ha : PA X (e :: es) t)
    (hdb : (x == ("__debug__" : Str)) = false := by decide)
    (he : starEach (e :: es) X.env = (false, eval e X.env) :: starEach es X.env := by rfl)
    (hpl : (backTo pos (starEach es X.env)).any (·.1) = false := by rfl) :
    PE X (.Call (.Name x p) (e :: es) [] pos) (tCall sp dvs E t) := by
  constructor
  intro pins s σ H Q I h
  have args := ha.run pos pins s σ H _ I h
  refine wpAny_Call_Name_kw (ld_glob I hg hm ?_ hdb)
  refine PySem.W.callWith_K (h₀ := X.base) I.ok.mod.kin hk (thn args ?_) he hpl
  rintro us s1 ⟨vs, H1, I1, r, q⟩
  exact ⟨I1.kIn, run_fnG F hr hgd hb hd hx I1 r q⟩
end
end Tc
/-! Data at any depth, dicts too; what repr makes of them. -/
namespace Tc
open PySem PySem.Spec PyProof.Rows L2
def kD : Key → PyData
  | .inl i => .int i
  | .inr x => .str x
/-- a key that no dict of data has: an instance stands there as a dict that begins with it -/
def markN : Nat := 2 ^ 2000
abbrev markD : PyData := .tuple [.int (.ofNat markN)]
/-- an instance of the class at C, as data -/
abbrev inst (C : Addr) (fs : List (PyData × PyData)) : PyData := .dict ((markD, .int (.ofNat C)) :: fs)
/-- no instance (at the top) -/
def notI : PyData → Bool
  | .dict ((.tuple _, _) :: _) => false
  | _ => true
mutual
/-- the value is this data, all of it tracked -/
inductive Dv (H : Hp) : V → PyData → Prop
  | non : Dv H .non .none
  | bl (b : Bool) : Dv H (.bl b) (.bool b)
  | int (i : Int) : Dv H (.int i) (.int i)
  | str (x : Str) : Dv H (.str x) (.str x)
  | lst {a : Addr} {xs : List V} {ds : List PyData} : Rd H a (.lst xs) → DvAll H xs ds → Dv H (.ref a) (.list ds)
  | tup {a : Addr} {xs : List V} {ds : List PyData} : Rd H a (.tup xs) → DvAll H xs ds → Dv H (.ref a) (.tuple ds)
  | dct {a : Addr} {kvs : List (Key × V)} {ds : List (PyData × PyData)} : Rd H a (.dK kvs) → DvKv H kvs ds → Dv H (.ref a) (.dict ds)
  | ins {a C dx : Addr} {gs : List (Str × V)} {ds : List (PyData × PyData)} : H a = some (.ins C dx gs) → DvNm H gs ds → Dv H (.ref a) (.dict ((.tuple [.int (.ofNat markN)], .int (.ofNat C)) :: ds))
inductive DvNm (H : Hp) : List (Str × V) → List (PyData × PyData) → Prop
  | nil : DvNm H [] []
  | cons {f : Str} {v : V} {gs : List (Str × V)} {d : PyData} {ds : List (PyData × PyData)} : Dv H v d → DvNm H gs ds → DvNm H ((f, v) :: gs) ((.str f, d) :: ds)
inductive DvAll (H : Hp) : List V → List PyData → Prop
  | nil : DvAll H [] []
  | cons {v : V} {vs : List V} {d : PyData} {ds : List PyData} : Dv H v d → DvAll H vs ds → DvAll H (v :: vs) (d :: ds)
inductive DvKv (H : Hp) : List (Key × V) → List (PyData × PyData) → Prop
  | nil : DvKv H [] []
  | cons {k : Key} {v : V} {kvs : List (Key × V)} {d : PyData} {ds : List (PyData × PyData)} : Dv H v d → DvKv H kvs ds → DvKv H ((k, v) :: kvs) ((kD k, d) :: ds)
end
theorem rd_ne {H : Hp} {a : Addr} {u : HO} (h : Rd H a u) (hs : H sysModules = none) : a ≠ sysModules := by
  rintro rfl
  rcases h with h | ⟨o, h⟩ <;> (rw [hs] at h; cases h)
/-- data without instances, at any depth -/
structure Clean (C : PyData → Prop) : Prop where
  lst : ∀ xs, C (.list xs) → ∀ x ∈ xs, C x
  tup : ∀ xs, C (.tuple xs) → ∀ x ∈ xs, C x
  dct : ∀ kvs, C (.dict kvs) → ∀ p ∈ kvs, C p.2
  no : ∀ c ds, ¬ C (.dict ((.tuple [.int (.ofNat markN)], c) :: ds))
theorem all_show {xs : List PyData} (h : PyData.showableAll xs = true) : ∀ x ∈ xs, x.showable = true := by
  induction xs with
  | nil => intro x hx; cases hx
  | cons y ys ih =>
    intro x hx
    obtain ⟨h1, h2⟩ : y.showable = true ∧ PyData.showableAll ys = true := by simpa [PyData.showableAll] using h
    cases hx with
    | head => exact h1
    | tail _ q => exact ih h2 x q
theorem kv_show {kvs : List (PyData × PyData)} (h : PyData.showableKv kvs = true) : ∀ p ∈ kvs, p.1.showable = true ∧ p.2.showable = true := by
  induction kvs with
  | nil => intro x hx; cases hx
  | cons y ys ih =>
    intro x hx
    obtain ⟨⟨h1, h2⟩, h3⟩ : (y.1.showable = true ∧ y.2.showable = true) ∧ PyData.showableKv ys = true := by simpa [PyData.showableKv] using h
    cases hx with
    | head => exact ⟨h1, h2⟩
    | tail _ q => exact ih h3 x q
theorem mark_show : PyData.showable (.tuple [.int (.ofNat markN)]) = false := by decide +kernel
theorem clean_show : Clean fun d => d.showable = true := ⟨fun xs h => all_show h, fun xs h => all_show h, fun kvs h p hp => (kv_show h p hp).2, fun c ds h => by
  have z := (kv_show h _ (.head _)).1
  rw [mark_show] at z
  cases z⟩
theorem all_noDict {xs : List PyData} (h : PyData.hasDictAll xs = false) : ∀ x ∈ xs, x.hasDict = false := by
  induction xs with
  | nil => intro x hx; cases hx
  | cons y ys ih =>
    intro x hx
    obtain ⟨h1, h2⟩ : y.hasDict = false ∧ PyData.hasDictAll ys = false := by simpa [PyData.hasDictAll] using h
    cases hx with
    | head => exact h1
    | tail _ q => exact ih h2 x q
theorem clean_noDict : Clean fun d => d.hasDict = false := ⟨fun xs h => all_noDict h, fun xs h => all_noDict h, fun kvs h => absurd (show true = false from h) (by decide), fun c ds h => absurd (show true = false from h) (by decide)⟩
section
variable {X : Cx} {pins : List (Addr × Obj)} {σ : L2.St} {H : Hp} {s : Shared} {C : PyData → Prop}
mutual
theorem Dv.reads (cl : Clean C) (I : Inv X pins σ H s) (hs : H sysModules = none) : ∀ {v : V} {d : PyData}, Dv H v d → C d → ∀ u, RelV v u →
    ∃ as, Reads s.heap u d as ∧ sysModules ∉ as
  | _, _, .non, _, _, r => by cases r; exact ⟨_, Reads.none, by simp⟩
  | _, _, .bl b, _, _, r => by cases r; exact ⟨_, Reads.bool b, by simp⟩
  | _, _, .int i, _, _, r => by obtain ⟨t, rfl⟩ := r; exact ⟨_, Reads.int i t, by simp⟩
  | _, _, .str x, _, _, r => by obtain ⟨t, rfl⟩ := r; exact ⟨_, Reads.str x t, by simp⟩
  | _, _, .lst h ha, hc0, _, r => by
    cases r
    obtain ⟨its, rv, ⟨o, n, ho, hc, _, hd⟩, _⟩ := I.list (.inl h)
    obtain ⟨as, hr, hn⟩ := DvAll.reads cl I hs ha (cl.lst _ hc0) _ rv
    exact ⟨_, Reads.list ho hc hd hr, by simpa using ⟨(rd_ne h hs).symm, hn⟩⟩
  | _, _, .tup h ha, hc0, _, r => by
    cases r
    obtain ⟨its, rv, ⟨o, ho, hc, n, hd⟩, _⟩ := I.tuple (.inl h)
    obtain ⟨as, hr, hn⟩ := DvAll.reads cl I hs ha (cl.tup _ hc0) _ rv
    exact ⟨_, Reads.tuple ho hc hd hr, hn⟩
  | _, _, .ins (C := c) (ds := ds) _ _, hc0, _, _ => absurd hc0 (cl.no (.int (.ofNat c)) ds)
  | _, _, .dct (a := a) h ha, hc0, _, r => by
    cases r
    obtain ⟨_, _, vs, rk, o, es, ep, ho, hx, hd, _, hp, _⟩ := h.ok I.hok
    obtain ⟨as, bs, h1, h2, n1, n2⟩ := DvKv.reads cl I hs ha (cl.dct _ hc0) _ rk _ hp
    exact ⟨_, Reads.dict ho hx.1 hd h1 h2, by
      simp only [List.cons_append, List.mem_cons, List.mem_append, not_or]
      exact ⟨(rd_ne h hs).symm, n1, n2⟩⟩
theorem DvAll.reads (cl : Clean C) (I : Inv X pins σ H s) (hs : H sysModules = none) : ∀ {vs : List V} {ds : List PyData}, DvAll H vs ds → (∀ x ∈ ds, C x) → ∀ us, Vals vs us →
    ∃ as, ReadsAll s.heap us ds as ∧ sysModules ∉ as
  | _, _, .nil, _, _, r => by cases r; exact ⟨_, ReadsAll.nil, by simp⟩
  | _, _, .cons h1 h2, hc0, _, r => by
    cases r with
    | cons r1 r2 =>
      obtain ⟨as, q1, n1⟩ := Dv.reads cl I hs h1 (hc0 _ (.head _)) _ r1
      obtain ⟨bs, q2, n2⟩ := DvAll.reads cl I hs h2 (fun x hx => hc0 x (.tail _ hx)) _ r2
      exact ⟨_, ReadsAll.cons q1 q2, by simpa using ⟨n1, n2⟩⟩
theorem DvKv.reads (cl : Clean C) (I : Inv X pins σ H s) (hs : H sysModules = none) : ∀ {kvs : List (Key × V)} {ds : List (PyData × PyData)}, DvKv H kvs ds → (∀ p ∈ ds, C p.2) → ∀ vs, KV kvs vs → ∀ es, Pairs (mixKind X.prog X.w) es vs →
    ∃ as bs, ReadsAll s.heap (es.map (·.key)) (ds.map (·.1)) as ∧ ReadsAll s.heap (es.map (·.val)) (ds.map (·.2)) bs ∧ sysModules ∉ as ∧ sysModules ∉ bs
  | _, _, .nil, _, _, r, _, p => by
    cases r; cases p
    exact ⟨_, _, ReadsAll.nil, ReadsAll.nil, by simp, by simp⟩
  | _, _, .cons (k := k) h1 h2, hc0, _, r, _, p => by
    cases r with
    | cons r1 r2 =>
      cases p with
      | @cons e0 kv0 es0 kvs0 p1 p2 p3 =>
        obtain ⟨rk, rv⟩ := r1
        obtain ⟨as, q1, n1⟩ := Dv.reads cl I hs h1 (hc0 _ (.head _)) _ rv
        obtain ⟨as', bs', q2, q3, n2, n3⟩ := DvKv.reads cl I hs h2 (fun x hx => hc0 x (.tail _ hx)) _ r2 _ p3
        have hk : ∃ cs, Reads s.heap e0.key (kD k) cs ∧ sysModules ∉ cs := by
          have p1' := p1
          rw [← rk, mixKind_is] at p1'
          rcases keyIs_shape p1' with ⟨i, t, e1, e2⟩ | ⟨x, t, e1, e2⟩
          · dsimp only at e1
            subst e1
            exact ⟨[], by rw [e2]; exact Reads.int i t, by simp⟩
          · dsimp only at e1
            subst e1
            exact ⟨[], by rw [e2]; exact Reads.str x t, by simp⟩
        obtain ⟨cs, hk1, hk2⟩ := hk
        exact ⟨_, _, ReadsAll.cons hk1 q2, ReadsAll.cons (show Reads s.heap e0.val _ as by rw [p2]; exact q1) q3, by simpa using ⟨hk2, n2⟩, by simpa using ⟨n1, n3⟩⟩
end
end
/-- repr(x) -/
def rRepr : List V → Hp → VK → Prop := fun xs H Q => ∃ v d, xs = [v] ∧ Dv H v d ∧ d.showable = true ∧ d.depth ≤ 100 ∧
  d.shown.length ≤ sizeLine ∧ Q (.str d.shown) H
theorem call_repr {X : Cx} {k : Nat} (hr : Room k X.A) (hgd : X.A.guards = some []) (hsm : ∃ o, X.K.lookup sysModules = some o) :
    CallR X (.builtin "repr") rRepr := by
  intro pins s σ H xs us Q I r h
  obtain ⟨v, d, rfl, hv, hs, hd, hl, q⟩ := h
  obtain ⟨u, rfl, ru⟩ := vals1 r
  have hun := hr.un
  have sm : H sysModules = none := by
    obtain ⟨o, ho⟩ := hsm
    exact I.bs _ _ (I.ok.mod.kin _ _ ho) |>.2
  obtain ⟨as, rd, na⟩ := Dv.reads clean_show I sm hv hs u ru
  cases hv with
  | non =>
    cases ru
    exact PySem.P.repr_of_none ⟨.str _, H, I.tok _, ⟨_, rfl⟩, q⟩
  | bl b =>
    cases ru
    exact PySem.P.repr_of_bool ⟨.str _, H, I.tok _, ⟨_, rfl⟩, q⟩
  | int i =>
    obtain ⟨t, rfl⟩ := ru
    exact PySem.P.repr_of_int (by simpa [PyData.showable] using hs) ⟨.str _, H, I.tok _, ⟨_, rfl⟩, q⟩
  | str x =>
    obtain ⟨t, rfl⟩ := ru
    exact PySem.P.repr_of_str ⟨.str _, H, I.tok _, ⟨_, rfl⟩, q⟩ (by simpa [PyData.shown] using hl)
  | lst _ _ | tup _ _ | dct _ _ | ins _ _ =>
    cases ru
    refine repr_of_reads' rd hs (fun _ => na) hgd (by omega) (fun _ _ e => e) (fun h' u tk hk => ?_) hl
    exact ⟨.str _, H, I.kept (t' := tk) hk, ⟨_, rfl⟩, q⟩
end Tc
/-! The law's call, where the guards are known to be none. -/
namespace Tc
open PySem PySem.Spec PyProof.Rows L2
section
variable {P : Program} {w : World} {K : PySem.W.Frag} {mg mb : Str → Option Value} {CX : CXT}
  {k : Nat} {fa a : Addr} {fd : FuncData} {x : Str} {sp : Sp} {s₁ : Shared} {vs : List Value} {ns : List Int}
/-- what must hold behind the law's call -/
abbrev Behind (s₁ : Shared) : Result → Shared → Prop := fun r s' =>
  r = .ok (.ret (.bool true)) ∧ OldK s₁.heap s'.heap ∧ s'.os = s₁.os ∧ AllBare s'.gens
end
end Tc
/-! An own exception class is called, with keywords too. -/
namespace Tc
open PySem PySem.Spec PySem.W
open Builtin Builtin.ObjectAttr
end Tc
/-! An own exception class with one field is called: what stands then. -/
namespace Tc
open PySem PySem.Spec PySem.W
open Builtin Builtin.ObjectAttr
end Tc
namespace Tc
open PySem PySem.Spec PySem.W PyProof.Rows
open Builtin Builtin.ObjectAttr
end Tc
/-! Exceptions as values, tracked: made, asked for their class, their field read. -/
namespace Tc
open PySem PySem.Spec PyProof.Rows L2
end Tc
namespace Tc
open PySem PySem.Spec PyProof.Rows L2
end Tc
/-! The head's facts by one Bool and the functions by their texts; what makes a new exception. -/
namespace Tc
open PySem PySem.Spec PyProof.Rows L2
/-- what objects name: the values of dicts, the names of classes, the code of functions -/
def valsOf (o : Obj) : List Addr := match o.data with
  | .dict es _ => es.toList.flatMap fun e => He.refV e.val
  | _ => []
def nsOf (o : Obj) : List Addr := match o.data with
  | .cls cd => [cd.ns]
  | _ => []
def codeOf (o : Obj) : List Addr := match o.data with
  | .func fd => He.refV fd.code
  | _ => []
def reach (g : Addr → Option Obj) (f : Obj → List Addr) (as : List Addr) : List Addr := as.flatMap fun a => match g a with
  | some o => f o
  | none => []
def obsM (F : PySem.W.Frag → Bool) (fn : List He.FnD) (K : PySem.W.Frag) : He.Al :=
  (F K && fn.all fun d => PySem.W.keepIn K (.ref (He.fAd K d.at_)) && (He.Fa.code d.at_ d.qual).ok K, fn.map fun d => He.fnObs K d.at_)
def SaysM (F : PySem.W.Frag → Bool) (fn : List He.FnD) (K : PySem.W.Frag) : Prop := obsM F fn K = He.valE fn
section
variable {F : PySem.W.Frag → Bool} {fn : List He.FnD} {K : PySem.W.Frag}
theorem SaysM.fact (c : SaysM F fn K) : F K = true :=
  (He.ba (congrArg (fun z : He.Al => z.1) c)).1
/-- the def d of the text stands, and is called so -/
theorem SaysM.fun_ (c : SaysM F fn K) (i : Nat) {st : Stmt} {p : Str × Option Str} {x q : Str}
    (h : fn[i]? = some ⟨p, x, q, defArgs st, defBody st, defScope st⟩ := by rfl) :
    ∃ fd, Fun K x q st (He.fAd K p) fd := by
  have c1 := (He.ba (show (F K && fn.all fun d => PySem.W.keepIn K (.ref (He.fAd K d.at_)) && (He.Fa.code d.at_ d.qual).ok K) = true from
    congrArg (fun z : He.Al => z.1) c)).2
  have c2 := List.all_eq_true.mp c1 _ (List.mem_of_getElem? h)
  obtain ⟨kp, cd⟩ := He.ba c2
  have e : fn.map (fun d => He.fnObs K d.at_) = fn.map He.FnD.val := congrArg (fun z : He.Al => z.2) c
  have e2 : (fn.map fun d => He.fnObs K d.at_)[i]? = (fn.map He.FnD.val)[i]? := by rw [e]
  rw [List.getElem?_map, List.getElem?_map, h] at e2
  obtain ⟨oc, od, osl, kV, doc, pm, an, cdv, ct, lk, hc⟩ := He.fn_ok (Option.some.inj e2) cd
  exact ⟨_, fun_mk lk hc kp⟩
end
/-- a statement, then the rest, a word between them -/
def tMid (t u : TS) : TS := fun D σ H => ∃ M : L2.St → Hp → Prop, t { D with nx := M } σ H ∧ ∀ σ' H', M σ' H' → u D σ' H'
theorem pss_mid {X : Cx} {st : Stmt} {rest : List Stmt} {t u : TS} (h1 : PS X st t) (h2 : PSs X rest u) : PSs X (st :: rest) (tMid t u) := by
  constructor
  intro pins s σ H D I h
  obtain ⟨M, hm, hu⟩ := h
  refine wpAny_execs_cons (thn (h1.run pins s σ H { D with nx := M } I hm) ?_)
  intro f s1 q
  cases f with
  | next =>
    obtain ⟨σ', H', I', q⟩ := q
    exact h2.run pins s1 σ' H' D I' (hu σ' H' q)
  | ret v | brk | cont => exact q
/-- a def by its name: what it keeps, how it is called -/
structure Call (P : Program) (w : World) (K : PySem.W.Frag) (mg : Str → Option Value) (base : Heap) (CX : CXT)
    (k : Nat) (x : Str) (ps : List Str) (sp : Sp) : Prop where
  ex : ∃ f fd, FnG P w K mg base CX k f fd ps sp ∧ mg x = some (.ref f) ∧ PySem.W.keepIn K (.ref f) = true ∧ Binds K fd ps []
section
variable {X : Cx} {CX : CXT} {k : Nat} {ps : List Str} {sp : Sp} {E : XK} {x : Str} {p pos : Pos} {e : Expr} {es : List Expr} {t : TA}
theorem pe_do (F : Call X.prog X.w X.K X.mg X.base CX k x ps sp) (hr : Room k X.A)
    (hgd : X.A.guards = some []) (hg : Gl X x) (hx : Passes CX X E) (ha : PA X (e :: es) t)
    (hdb : (x == ("__debug__" : Str)) = false := by decide)
    (he : starEach (e :: es) X.env = (false, eval e X.env) :: starEach es X.env := by rfl)
    (hpl : (backTo pos (starEach es X.env)).any (·.1) = false := by rfl) :
    PE X (.Call (.Name x p) (e :: es) [] pos) (tCall sp [] E t) := by
  obtain ⟨f, fd, G, hm, hk, hb⟩ := F.ex
  exact pe_callG G hr hgd hg hm hk hb .nil hx ha hdb he hpl
end
/-! ### the facts of an exception class, told by a Bool -/
/-- the three bases: the built-in class under which a class stands -/
inductive Kin where
  | v | l | a
def Kin.B : Kin → String
  | .v => "ValueError"
  | .l => "LookupError"
  | .a => "ArithmeticError"
def Kin.new : Kin → String
  | .v => "ValueError.__new__"
  | .l => "LookupError.__new__"
  | .a => "ArithmeticError.__new__"
def Kin.ini : Kin → String
  | .v => "ValueError.__init__"
  | .l => "LookupError.__init__"
  | .a => "ArithmeticError.__init__"
def Kin.mro (k : Kin) : List Value := [.type k.B, .type "Exception", .type "BaseException", .type "object"]
theorem Kin.base : ∀ k : Kin, ExcBaseFacts k.B k.new k.ini k.mro
  | .v => PySem.F.excBase_ValueError
  | .l => PySem.F.excBase_LookupError
  | .a => PySem.F.excBase_ArithmeticError
end Tc
/-! except (A, B, C) as n. -/
namespace Tc
open PySem PySem.Spec PyProof.Rows L2
end Tc
/-! raise X(e), X with its own __init__; what a suite asks of the exception that it holds. -/
namespace Tc
open PySem PySem.Spec PyProof.Rows L2
end Tc
/-! xs.count(b), xs a list of bools. -/
namespace Tc
open PySem PySem.Spec PyProof.Rows L2
end Tc
namespace Tc
open PySem PySem.Spec PyProof.Rows L2
mutual
theorem Dv.mono {H H' : Hp} (s : Same H H') : ∀ {v : V} {d : PyData}, Dv H v d → Dv H' v d
  | _, _, .non => .non
  | _, _, .bl b => .bl b
  | _, _, .int i => .int i
  | _, _, .str x => .str x
  | _, _, .lst h a => .lst (h.elim (fun z => .inl (s _ _ z)) fun ⟨o, z⟩ => .inr ⟨o, s _ _ z⟩) (DvAll.mono s a)
  | _, _, .tup h a => .tup (h.elim (fun z => .inl (s _ _ z)) fun ⟨o, z⟩ => .inr ⟨o, s _ _ z⟩) (DvAll.mono s a)
  | _, _, .dct h a => .dct (h.elim (fun z => .inl (s _ _ z)) fun ⟨o, z⟩ => .inr ⟨o, s _ _ z⟩) (DvKv.mono s a)
  | _, _, .ins h a => .ins (s _ _ h) (DvNm.mono s a)
theorem DvNm.mono {H H' : Hp} (s : Same H H') : ∀ {gs : List (Str × V)} {ds : List (PyData × PyData)}, DvNm H gs ds → DvNm H' gs ds
  | _, _, .nil => .nil
  | _, _, .cons a b => .cons (Dv.mono s a) (DvNm.mono s b)
theorem DvAll.mono {H H' : Hp} (s : Same H H') : ∀ {vs : List V} {ds : List PyData}, DvAll H vs ds → DvAll H' vs ds
  | _, _, .nil => .nil
  | _, _, .cons a b => .cons (Dv.mono s a) (DvAll.mono s b)
theorem DvKv.mono {H H' : Hp} (s : Same H H') : ∀ {kvs : List (Key × V)} {ds : List (PyData × PyData)}, DvKv H kvs ds → DvKv H' kvs ds
  | _, _, .nil => .nil
  | _, _, .cons a b => .cons (Dv.mono s a) (DvKv.mono s b)
end
theorem Same.new {H : Hp} {p : Addr} {o : HO} (h : H p = none) : Same H (upd H p o) := fun b u e => by
  rw [upd_ne (ne_of_none e h)]
  exact e
/-- data that repr shows -/
def Good (d : PyData) : Prop := d.showable = true ∧ d.depth ≤ 100 ∧ d.shown.length ≤ sizeLine
instance (d : PyData) : Decidable (Good d) := by unfold Good; exact inferInstance
/-- a def's call, told by what it keeps -/
theorem Call.of {P : Program} {w : World} {K : PySem.W.Frag} {mg : Str → Option Value} {base : Heap} {CX : CXT} {k : Nat} {x qual : Str} {st : Stmt} {f : Addr} {fd : FuncData} {ps : List Str} {sp : Sp}
    (F : Fun K x qual st f fd) (G : FnG P w K mg base CX k f fd ps sp) (gm : mg x = some (.ref f))
    (h : ∀ (kV doc pm : Value) (an : Option Addr) (cdv ct : Value) (us : List Value), us.length = ps.length → bindArgs (PySem.W.fnOf x qual (defArgs st) (defBody st) (defScope st) .none kV doc pm an cdv ct) ⟨us, []⟩ = pure (ps.zip us)) :
    Call P w K mg base CX k x ps sp := ⟨f, fd, G, gm, F.kp, F.binds h⟩
end Tc
namespace Tc
open PySem PySem.Spec PyProof.Rows L2 Evl
/-- the lists at ps -/
inductive LL (H : Hp) : List Addr → List (List V) → Prop
  | nil : LL H [] []
  | snoc {ps : List Addr} {xss : List (List V)} {p : Addr} {xs : List V} : LL H ps xss → H p = some (.lst xs) → LL H (ps ++ [p]) (xss ++ [xs])
theorem LL.mono {H H' : Hp} : ∀ {ps : List Addr} {xss : List (List V)}, LL H ps xss → (∀ p ∈ ps, ∀ o, H p = some o → H' p = some o) → LL H' ps xss
  | _, _, .nil, _ => .nil
  | _, _, .snoc r h, s => .snoc (r.mono fun p hp => s p (List.mem_append_left _ hp)) (s _ (by simp) _ h)
theorem Call.mono {P : Program} {w : World} {K : PySem.W.Frag} {mg : Str → Option Value} {base : Heap} {CX : CXT} {j k : Nat} {x : Str} {ps : List Str} {sp : Sp} (F : Call P w K mg base CX j x ps sp) (h : j ≤ k) : Call P w K mg base CX k x ps sp := by
  obtain ⟨f, fd, G, r⟩ := F.ex
  exact ⟨f, fd, G.mono h, r⟩
/-- a whole number of the module -/
theorem pe_num {X : Cx} {x : Str} {n : Int} {p : Pos} (h : ∃ t, X.mg x = some (.int n t)) (hg : Gl X x) (hd : (x == ("__debug__" : Str)) = false := by decide) : PE X (.Name x p) (tC (.int n)) := by
  obtain ⟨t, e⟩ := h
  exact pe_glob hg e ⟨_, rfl⟩ hd
end Tc
/-! a op b op c op d; which class data are of. -/
namespace Tc
open PySem PySem.Spec PyProof.Rows L2
/-- the class of data -/
def tyD : PyData → String
  | .none => "NoneType"
  | .bool _ => "bool"
  | .int _ => "int"
  | .str _ => "str"
  | .list _ => "list"
  | .tuple _ => "tuple"
  | .dict _ => "dict"
theorem Dv.ty {K : PySem.W.Frag} {H : Hp} {v : V} {d : PyData} (h : Dv H v d) (ni : notI d = true) : TyX K H v (.type (tyD d)) := by
  cases h with
  | non => exact .base .non
  | bl b => exact .base (.bl b)
  | int i => exact .base (.int i)
  | str x => exact .base (.str x)
  | lst h _ => exact h.elim (fun h => .base (.lst h)) fun ⟨o, h⟩ => .base (.frz h)
  | tup h _ => exact h.elim (fun h => .base (.tup h)) fun ⟨o, h⟩ => .fTuple h
  | dct h _ => exact h.elim (fun h => .base (.dK h)) fun ⟨o, h⟩ => .fDict h
  | ins _ _ => cases ni
/-- isinstance of two built-in classes -/
def tyIs (a b : String) : Bool := (Value.type a == Value.type b) || ((fastBuiltinMro a).map fun l => l.contains (.type b)) == some true
theorem kit_ty {K : PySem.W.Frag} {a b : String} (h : (PySem.W.kitMeta b && (fastBuiltinMro a).isSome) = true) : PySem.W.kitOne K (.type a) (.type b) = some (tyIs a b) := by
  obtain ⟨h1, h2⟩ := Bool.and_eq_true_iff.mp h
  obtain ⟨l, hl⟩ := Option.isSome_iff_exists.mp h2
  unfold PySem.W.kitOne tyIs
  by_cases e : (Value.type a == Value.type b) = true
  · rw [if_pos e, e] <;> rfl
  · rw [if_neg e]
    have e2 : (Value.type a == Value.type b) = false := Bool.eq_false_iff.mpr e
    unfold PySem.W.kitCls
    show (if PySem.W.kitMeta b = true then PySem.W.subIn K (.type a) (.type b) else none) = _
    rw [if_pos h1, e2]
    show (fastBuiltinMro a).map _ = _
    rw [hl]
    show some (l.contains (Value.type b)) = some (false || (some (l.contains (Value.type b)) == some true))
    cases l.contains (Value.type b) <;> rfl
theorem metas : ∀ b ∈ ["int", "bool", "tuple", "str", "list"], ∀ a ∈ ["NoneType", "bool", "int", "str", "list", "tuple", "dict"], (PySem.W.kitMeta b && (fastBuiltinMro a).isSome) = true := by decide +kernel
theorem tyD_mem (d : PyData) : tyD d ∈ ["NoneType", "bool", "int", "str", "list", "tuple", "dict"] := by
  cases d <;> simp [tyD]
/-- isinstance(v, T), v data -/
theorem isi_D {K : PySem.W.Frag} {H : Hp} {v : V} {d : PyData} {T : String} {Q : VK} (h : Dv H v d) (ni : notI d = true) (hT : T ∈ ["int", "bool", "tuple", "str", "list"]) (q : Q (.bl (tyIs (tyD d) T)) H) : rIsi K [v, .ty T] H Q :=
  ⟨v, .ty T, _, _, _, rfl, .ty T, h.ty ni, kit_ty (metas T hT _ (tyD_mem d)), q⟩
theorem ty_int : ∀ d : PyData, tyIs (tyD d) "int" = (match d with | .int _ => true | .bool _ => true | _ => false) := by
  have h : tyIs "NoneType" "int" = false ∧ tyIs "bool" "int" = true ∧ tyIs "int" "int" = true ∧ tyIs "str" "int" = false ∧ tyIs "list" "int" = false ∧ tyIs "tuple" "int" = false ∧ tyIs "dict" "int" = false := by decide +kernel
  obtain ⟨h1, h2, h3, h4, h5, h6, h7⟩ := h
  intro d
  cases d <;> simp only [tyD] <;> assumption
theorem ty_bool : ∀ d : PyData, tyIs (tyD d) "bool" = (match d with | .bool _ => true | _ => false) := by
  have h : tyIs "NoneType" "bool" = false ∧ tyIs "bool" "bool" = true ∧ tyIs "int" "bool" = false ∧ tyIs "str" "bool" = false ∧ tyIs "list" "bool" = false ∧ tyIs "tuple" "bool" = false ∧ tyIs "dict" "bool" = false := by decide +kernel
  obtain ⟨h1, h2, h3, h4, h5, h6, h7⟩ := h
  intro d
  cases d <;> simp only [tyD] <;> assumption
theorem ty_tuple : ∀ d : PyData, tyIs (tyD d) "tuple" = (match d with | .tuple _ => true | _ => false) := by
  have h : tyIs "NoneType" "tuple" = false ∧ tyIs "bool" "tuple" = false ∧ tyIs "int" "tuple" = false ∧ tyIs "str" "tuple" = false ∧ tyIs "list" "tuple" = false ∧ tyIs "tuple" "tuple" = true ∧ tyIs "dict" "tuple" = false := by decide +kernel
  obtain ⟨h1, h2, h3, h4, h5, h6, h7⟩ := h
  intro d
  cases d <;> simp only [tyD] <;> assumption
theorem DvAll.len {H : Hp} : ∀ {vs : List V} {ds : List PyData}, DvAll H vs ds → vs.length = ds.length
  | _, _, .nil => rfl
  | _, _, .cons _ h => congrArg Nat.succ h.len
end Tc
/-! calls of defs that may stand under a repr, by place and by name. -/
namespace Tc
open PySem PySem.Spec PyProof.Rows L2
/-- as Call, whoever calls -/
structure CallO (P : Program) (w : World) (K : PySem.W.Frag) (mg : Str → Option Value) (base : Heap) (CX : CXT)
    (k : Nat) (x : Str) (ps : List Str) (sp : Sp) : Prop where
  ex : ∃ f fd, FnOk P w K mg base CX k f fd ps sp ∧ mg x = some (.ref f) ∧ PySem.W.keepIn K (.ref f) = true ∧ Binds K fd ps []
theorem CallO.call {P : Program} {w : World} {K : PySem.W.Frag} {mg : Str → Option Value} {base : Heap} {CX : CXT} {k : Nat} {x : Str} {ps : List Str} {sp : Sp}
    (F : CallO P w K mg base CX k x ps sp) : Call P w K mg base CX k x ps sp := by
  obtain ⟨f, fd, G, r⟩ := F.ex
  exact ⟨f, fd, .of G, r⟩
theorem CallO.of {P : Program} {w : World} {K : PySem.W.Frag} {mg : Str → Option Value} {base : Heap} {CX : CXT} {k : Nat} {x qual : Str} {st : Stmt} {f : Addr} {fd : FuncData} {ps : List Str} {sp : Sp}
    (F : Fun K x qual st f fd) (G : FnOk P w K mg base CX k f fd ps sp) (gm : mg x = some (.ref f))
    (h : ∀ (kV doc pm : Value) (an : Option Addr) (cdv ct : Value) (us : List Value), us.length = ps.length → bindArgs (PySem.W.fnOf x qual (defArgs st) (defBody st) (defScope st) .none kV doc pm an cdv ct) ⟨us, []⟩ = pure (ps.zip us)) :
    CallO P w K mg base CX k x ps sp := ⟨f, fd, G, gm, F.kp, F.binds h⟩
end Tc
/-! The head's facts with the tables of defs that make lambdas; the law's end with these, no repr around. -/
namespace Tc
open PySem PySem.Spec PyProof.Rows L2
end Tc
namespace Tc
open PySem PySem.Spec PyProof.Rows L2
section
variable {P : Program} {w : World} {K : PySem.W.Frag} {mg mb : Str → Option Value} {CX : CXT}
  {k : Nat} {fa a : Addr} {cs : List (Addr × Addr)} {fd : FuncData} {x : Str} {sp : Sp} {s₁ : Shared} {vs : List Value} {ns : List Int}
/-- an empty table of code objects -/
abbrev tab0 : Obj := { cls := .none, data := .fields #[] }
abbrev scriptO (vs : List Value) : Obj := { cls := .type "list", data := .seq vs.toArray }
/-- the law's call, from a heap in which the tables and at most the script are tracked -/
theorem callT_from (KX : K.In s₁.heap) (hns : s₁.heap.Ns mainGlobals mg) (hb : s₁.heap.Ns builtinsNs mb)
    (hbb : ∀ y : Str, y ≠ "__name__" → mb y = bootBuiltins y) (hlim : s₁.heap.NoLimit) (hg : s₁.gens = #[])
    (hT : ∀ p ∈ cs, s₁.heap.get? p.2 = some tab0) (nT : ∀ p ∈ cs, K.lookup p.2 = none) (C : ∀ p ∈ cs, PySem.W.CodeHd s₁.heap p.1 p.2)
    (hbm : ∃ (bm : Addr) (ob : Obj), mg "__builtins__" = some (.ref bm) ∧ bm ≠ builtinsNs ∧ s₁.heap.get? bm = some ob ∧ ob.cls = .type "module" ∧ ob.dict = some builtinsNs ∧ ob.data = .plain)
    (ha : s₁.heap.get? a = some (scriptO vs)) (hr : Room k callerA)
    (F : ∀ base : Heap, K.In base → base.Ns mainGlobals mg → (∀ p ∈ cs, LamX.TabB base mg p.1 p.2) → FnG P w K mg base CX k fa fd [x] sp)
    (hbind : ∀ (s : Shared) (u : Value), BindsTo s fd ⟨[u], []⟩ [(x, u)])
    (hCX : ∀ H e s', CX [] H s₁ (fun _ _ _ => False) e s' → False)
    (H : Hp) (hH : ∀ p ∈ cs, H p.2 = some (.tbl #[])) (hO : ∀ b, H b = none ∨ b ∈ cs.map (·.2) ∨ ∃ o xs, H b = some (.frz o (.lst xs)))
    (hsp : sp [.ref a] H (fun v _ => v = .bl true) fun _ _ _ => False)
    (hok : HOk P w H s₁.heap) (hA : ∀ b, H b ≠ none → b = a ∨ b ∈ cs.map (·.2)) (hK : H a ≠ none → K.lookup a = none) :
    codeAny (model P w) callerA (.call (.ref fa) ⟨[.ref a], []⟩) (Behind s₁) s₁ := by
  have tabAt : ∀ b, b ∈ cs.map (·.2) → s₁.heap.get? b = some tab0 := by
    intro b hb
    obtain ⟨p, hp, rfl⟩ := List.mem_map.mp hb
    exact hT p hp
  have hid : ∀ {b : Addr} {o : Obj}, s₁.heap.get? b = some o → H b = none → (hidT s₁.heap H).get? b = some o := fun e n => hidT_get e n
  -- what is neither the script nor a table is not tracked
  have free : ∀ {b : Addr} {o : Obj}, s₁.heap.get? b = some o → (∀ vs n, o.data ≠ .seq vs n) → o.data ≠ .fields #[] → H b = none := by
    intro b o e h1 h2
    cases q : H b with
    | none => rfl
    | some u =>
      rcases hA b (by rw [q]; exact Option.some_ne_none u) with z | z
      · rw [z, ha] at e
        cases e
        exact (h1 _ _ rfl).elim
      · rw [tabAt b z] at e
        cases e
        exact (h2 rfl).elim
  have freeD : ∀ {b : Addr} {o : Obj} {es : Array DictEntry} {ep : Nat}, s₁.heap.get? b = some o → o.data = .dict es ep → H b = none := fun e d =>
    free e (fun vs n z => by rw [d] at z; cases z) (fun z => by rw [d] at z; cases z)
  have names : ∀ {b : Addr} {m : Str → Option Value}, s₁.heap.Ns b m → (hidT s₁.heap H).Ns b m := by
    rintro b m ⟨o, es, ep, e, d, r⟩
    exact ⟨o, es, ep, hid e (freeD e d), d, r⟩
  have written : K.In (hidT s₁.heap H) := by
    intro b o e
    refine hid (KX b o e) ?_
    cases q : H b with
    | none => rfl
    | some u =>
      rcases hA b (by rw [q]; exact Option.some_ne_none u) with z | z
      · rw [z] at e q
        rw [hK (by rw [q]; exact Option.some_ne_none u)] at e
        cases e
      · obtain ⟨p, hp, rfl⟩ := List.mem_map.mp z
        rw [nT p hp] at e
        cases e
  have TB : ∀ p ∈ cs, LamX.TabB (hidT s₁.heap H) mg p.1 p.2 := by
    intro p hp
    have here := hT p hp
    refine ⟨?_, ?_, ?_⟩
    · obtain ⟨o, us, file, tf, flags, tg, inF, text, tt, e1, r1, r2, r3, rest⟩ := C p hp
      refine ⟨o, us, file, tf, flags, tg, inF, text, tt, hid e1 (free e1 (fun vs n z => ?_) fun z => ?_), r1, r2, r3, rest⟩
      · rw [r2] at z
        cases z
      · rw [r2] at z
        cases z
        simp at r3
    · obtain ⟨bm, ob, b1, b2, b3, b4, b5, b6⟩ := hbm
      have nG : bm ≠ mainGlobals := by
        intro q
        obtain ⟨o, es, ep, e, d, _⟩ := hns
        rw [q, e] at b3
        cases b3
        rw [d] at b6
        cases b6
      have nP : bm ≠ p.2 := by
        intro q
        rw [q, here] at b3
        cases b3
        cases b6
      exact ⟨bm, ob, b1, b2, nG, nP, hid b3 (free b3 (fun vs n z => by rw [b6] at z; cases z) (fun z => by rw [b6] at z; cases z)), b4, b5, b6⟩
    · intro z
      obtain ⟨o, es, ep, e, d, _⟩ := hns
      rw [z, here] at e
      cases e
      cases d
  have e0 : Env0 P w K mg (hidT s₁.heap H) callerA [] s₁ H :=
    ⟨rfl, ⟨written, names hns, ⟨mb, names hb, hbb⟩, by obtain ⟨mc, h1, h2⟩ := hlim; exact ⟨mc, names h1, h2⟩⟩, fun b o e => of_hidT e, Nat.le_of_eq (hidT_size _ _), trivial,
      fun b h => (List.not_mem_nil (show b ∈ ([] : List Addr) from h)).elim, hok, .of_eq hg⟩
  have run := (F _ written (names hns) TB).run callerA [] s₁ H ⟨[.ref a], []⟩ [.ref a] [.ref a] _ _ hr rfl e0 (hbind s₁ (.ref a)) (.cons rfl .nil) hsp
  refine codeAny_mono run ?_
  intro r s' h
  rcases r with e | fl
  · exact (hCX H e s' h).elim
  cases fl with
  | next | brk | cont => exact False.elim h
  | ret u =>
    obtain ⟨v, H', os, bare, un, hok', rv, q⟩ := h
    have hv : v = .bl true := q
    subst hv
    have hu : u = Value.bool true := rv
    subst hu
    have old : ∀ b o, b ∉ cs.map (·.2) → s₁.heap.get? b = some o → s'.heap.get? b = some o := by
      intro b o nb e
      cases q : H b with
      | none => exact un.keep b o e q (fun z => nomatch (show b ∈ ([] : List Addr) from z)) (fun z => nomatch z)
      | some u =>
        rcases hO b with z | z | ⟨ob, xs, z⟩
        · rw [q] at z
          cases z
        · exact absurd z nb
        · have now := (hok b _ z).1
          have later := (hok' b _ (un.frzs b ob _ z)).1
          rw [e] at now
          cases now
          exact later
    have grown : ∀ p ∈ cs, ∃ more : Array Value, s'.heap.get? p.2 = some { cls := .none, data := .fields more } := by
      intro p hp
      obtain ⟨more, z⟩ := un.tbls p.2 #[] (hH p hp)
      exact ⟨_, hok' p.2 _ z⟩
    refine ⟨rfl, ⟨fun b o e => ?_, fun b o e => ?_⟩, os, bare⟩
    · by_cases hb : b ∈ cs.map (·.2)
      · obtain ⟨p, hp, rfl⟩ := List.mem_map.mp hb
        obtain ⟨more, hm⟩ := grown p hp
        rw [hT p hp] at e
        cases e
        exact .inr (.inl ⟨((C p hp).tab (hT p hp)).isCodeTable, rfl, #[], more, rfl, by rw [Array.empty_append]; exact hm⟩)
      · exact .inl (old b o hb e)
    · by_cases hb : b ∈ cs.map (·.2)
      · obtain ⟨p, hp, rfl⟩ := List.mem_map.mp hb
        obtain ⟨more, hm⟩ := grown p hp
        exact ⟨_, hm⟩
      · exact ⟨o, old b o hb e⟩
/-- the law's call -/
theorem law_callTG (KX : K.In s₁.heap) (hns : s₁.heap.Ns mainGlobals mg) (hb : s₁.heap.Ns builtinsNs mb)
    (hbb : ∀ y : Str, y ≠ "__name__" → mb y = bootBuiltins y) (hlim : s₁.heap.NoLimit) (hg : s₁.gens = #[])
    (hT : ∀ p ∈ cs, s₁.heap.get? p.2 = some tab0) (nT : ∀ p ∈ cs, K.lookup p.2 = none) (C : ∀ p ∈ cs, PySem.W.CodeHd s₁.heap p.1 p.2)
    (hbm : ∃ (bm : Addr) (ob : Obj), mg "__builtins__" = some (.ref bm) ∧ bm ≠ builtinsNs ∧ s₁.heap.get? bm = some ob ∧ ob.cls = .type "module" ∧ ob.dict = some builtinsNs ∧ ob.data = .plain)
    (ha : s₁.heap.get? a = some (scriptO vs)) (hi : IntsAre vs ns) (hl : ns.length ≤ sizeLine) (hr : Room k callerA)
    (F : ∀ base : Heap, K.In base → base.Ns mainGlobals mg → (∀ p ∈ cs, LamX.TabB base mg p.1 p.2) → FnG P w K mg base CX k fa fd [x] sp)
    (hbind : ∀ (s : Shared) (u : Value), BindsTo s fd ⟨[u], []⟩ [(x, u)])
    (hsp : ∀ H : Hp, (∀ p ∈ cs, H p.2 = some (.tbl #[])) → SqL K H a (ns.map V.int) → sp [.ref a] H (fun v _ => v = .bl true) fun _ _ _ => False)
    (hCX : ∀ H e s', CX [] H s₁ (fun _ _ _ => False) e s' → False) :
    codeAny (model P w) callerA (.call (.ref fa) ⟨[.ref a], []⟩) (Behind s₁) s₁ := by
  have rv := vals_ints hi
  have main := fun H hH hO hq => callT_from (sp := sp) KX hns hb hbb hlim hg hT nT C hbm ha hr F hbind hCX H hH hO hq
  have mem : ∀ p ∈ cs, p.2 ∈ cs.map (·.2) := fun p hp => List.mem_map.mpr ⟨p, hp, rfl⟩
  have tabAt : ∀ b, b ∈ cs.map (·.2) → s₁.heap.get? b = some tab0 := by
    intro b hb
    obtain ⟨p, hp, rfl⟩ := List.mem_map.mp hb
    exact hT p hp
  have aT : a ∉ cs.map (·.2) := by
    intro z
    have q := tabAt a z
    rw [ha] at q
    have z' : Data.seq vs.toArray _ = Data.fields #[] := congrArg Obj.data (Option.some.inj q)
    cases z'
  cases hk : K.lookup a with
  | some o =>
    have e := KX a o hk
    rw [ha] at e
    cases e
    let H : Hp := fun b => if b ∈ cs.map (·.2) then some (.tbl #[]) else none
    have on : ∀ {b : Addr}, b ∈ cs.map (·.2) → H b = some (.tbl #[]) := fun hb => if_pos hb
    have off : ∀ {b : Addr}, b ∉ cs.map (·.2) → H b = none := fun hb => if_neg hb
    refine main H (fun p hp => on (mem p hp)) (fun b => ?_) (hsp H (fun p hp => on (mem p hp)) (.inr ⟨_, vs.toArray, _, hk, rfl, rfl, rfl, ?_, by simpa using rv⟩)) (fun b u z => ?_) (fun b z => ?_) (fun z => absurd (off aT) z)
    · by_cases hb : b ∈ cs.map (·.2)
      · exact .inr (.inl hb)
      · exact .inl (off hb)
    · rw [List.size_toArray, hi.length]
      exact hl
    · by_cases hb : b ∈ cs.map (·.2)
      · rw [on hb] at z
        cases z
        exact tabAt b hb
      · rw [off hb] at z
        cases z
    · by_cases hb : b ∈ cs.map (·.2)
      · exact .inr hb
      · exact absurd (off hb) z
  | none =>
    let H : Hp := fun b => if b = a then some (.frz (scriptO vs) (.lst (ns.map V.int))) else if b ∈ cs.map (·.2) then some (.tbl #[]) else none
    have at_a : H a = some (.frz (scriptO vs) (.lst (ns.map V.int))) := if_pos rfl
    have on : ∀ {b : Addr}, b ∈ cs.map (·.2) → H b = some (.tbl #[]) := fun {b} hb => (if_neg (show ¬ b = a from fun z => aT (by rw [← z]; exact hb))).trans (if_pos hb)
    have off : ∀ {b : Addr}, b ≠ a → b ∉ cs.map (·.2) → H b = none := fun n hb => (if_neg n).trans (if_neg hb)
    refine main H (fun p hp => on (mem p hp)) (fun b => ?_) (hsp H (fun p hp => on (mem p hp)) (.inl (.inr ⟨_, at_a⟩))) (fun b u z => ?_) (fun b z => ?_) (fun _ => hk)
    · by_cases n : b = a
      · rw [n]
        exact .inr (.inr ⟨_, _, at_a⟩)
      · by_cases hb : b ∈ cs.map (·.2)
        · exact .inr (.inl hb)
        · exact .inl (off n hb)
    · by_cases n : b = a
      · subst n
        rw [at_a] at z
        cases z
        exact ⟨ha, by rw [List.length_map]; exact hl, vs, _, rv, ha⟩
      · by_cases hb : b ∈ cs.map (·.2)
        · rw [on hb] at z
          cases z
          exact tabAt b hb
        · rw [off n hb] at z
          cases z
    · by_cases n : b = a
      · exact .inl n
      · by_cases hb : b ∈ cs.map (·.2)
        · exact .inr hb
        · exact absurd (off n hb) z
end
/-- the end of a law's row, from a word about the head, with tables -/
theorem walk_endTG {l : PySem.W.OpenLaw} {n k : Nat} {q : Program} {loose : List Str} {XP : (Str → Option Value) → Heap → Prop} {YP : World → Heap → Prop} {d : DefRec} {CX : World → CXT} {x : Str}
    (hm : l.most = some n) (hs : n ≤ sizeLine) (h0 : d.params.defaults = []) (hr : Room k callerA)
    (F : ∀ (w : World) (mg : Str → Option Value) (fa : Addr) (h : Heap), YP w h → h.Ns mainGlobals mg → mg d.name = some (.ref fa) →
      ∃ (K : PySem.W.Frag) (fd : FuncData) (cs : List (Addr × Addr)) (sp : Sp), K.In h ∧ (∀ (s : Shared) (u : Value), BindsTo s fd ⟨[u], []⟩ [(x, u)]) ∧
        ((∀ p ∈ cs, h.get? p.2 = some tab0) ∧ (∀ p ∈ cs, K.lookup p.2 = none) ∧ ∀ p ∈ cs, PySem.W.CodeHd h p.1 p.2) ∧
        (∀ base : Heap, K.In base → base.Ns mainGlobals mg → (∀ p ∈ cs, LamX.TabB base mg p.1 p.2) → FnG l.prog w K mg base (CX w) k fa fd [x] sp) ∧
        ∀ (H : Hp) (a : Addr) (ns : List Int), ns.length ≤ n → (∀ p ∈ cs, H p.2 = some (.tbl #[])) → SqL K H a (ns.map V.int) → sp [.ref a] H (fun v _ => v = .bl true) fun _ _ _ => False)
    (hX : ∀ (w : World) (H : Hp) (s : Shared) (e : Value) (s' : Shared), ¬ CX w [] H s (fun _ _ _ => False) e s') :
    PySem.W.WalkO q loose XP YP l.row.toRowW d [] (fun f vs => PySem.call f vs) := by
  refine Att.attach_callB hm h0 ?_
  intro w s₀ s₁ mg mb fa o pm cd doc a vs ns G Y ho hd hcd hmg hobj hints hlen hbits hg
  obtain ⟨K, fd, cs, sp, KX, hb, ⟨hT, nT, C⟩, hF, hsp⟩ := F w mg fa _ Y G.T.g hmg
  exact law_callTG KX G.T.g G.T.b G.T.builtins G.T.nolimit hg hT nT C G.T.bmain hobj hints (Nat.le_trans hlen hs) hr hF hb
    (fun H hH hS => hsp H a ns hlen hH hS) (fun H e s' => hX w H s₁ e s')
end Tc
/-! The head's facts where classes have properties and classmethods: their defs stand behind records. -/
namespace Tc
open PySem PySem.Spec PyProof.Rows L2
/-- where a def stands: a global, a method, a property's getter, a classmethod's def -/
inductive Way where
  | glo (x : Str)
  | meth (x m : Str)
  | prop (x m : Str)
  | cmeth (x m : Str)
/-- the first thing of a record -/
def recAd (K : PySem.W.Frag) (T : String) (p : Addr) : Addr := match PySem.W.recIn K p T with
  | some (.ref g :: _) => g
  | _ => 0
def Way.ad (K : PySem.W.Frag) : Way → Addr
  | .glo x => He.ga K x
  | .meth x m => He.ma K (He.ga K x) m
  | .prop x m => recAd K "property" (He.ma K (He.ga K x) m)
  | .cmeth x m => recAd K "classmethod" (He.ma K (He.ga K x) m)
structure FnQ where
  way : Way
  name : Str
  qual : Str
  st : Stmt
def FnQ.val (d : FnQ) : He.FnV := some (d.name, d.qual, defArgs d.st, .stmts (defBody d.st), defScope d.st, mainGlobals, [], .none, builtinsNs)
/-- a def's own data at an address -/
def dataAt (K : PySem.W.Frag) (a : Addr) : Option FuncData := match K.lookup a with
  | some o => (match o.data with
    | .func fd => some fd
    | _ => none)
  | none => none
def seen (fd : FuncData) : He.FnV := some (fd.name, fd.qualname, fd.params, fd.body, fd.scope, fd.globals, fd.closure, fd.defaults, fd.builtins)
def seenAt (K : PySem.W.Frag) (a : Addr) : He.FnV := (dataAt K a).bind seen
def codeAt (K : PySem.W.Frag) (a : Addr) (q : Str) : Bool := match dataAt K a with
  | some fd => PySem.W.codeIn K fd.code q
  | none => false
theorem def_ok {K : PySem.W.Frag} {a : Addr} {d : FnQ} (e : seenAt K a = d.val) (c : codeAt K a d.qual = true) (k : PySem.W.keepIn K (.ref a) = true) : ∃ fd, Fun K d.name d.qual d.st a fd := by
  unfold seenAt dataAt at e
  unfold codeAt dataAt at c
  cases q : K.lookup a with
  | none =>
    rw [q] at c
    cases c
  | some o =>
    rw [q] at c e
    obtain ⟨oc, od, dt, osl⟩ := o
    cases dt with
    | func fd =>
      cases fd
      have e2 := Option.some.inj e
      simp only [Prod.mk.injEq] at e2
      obtain ⟨h1, h2, h3, h4, h5, h6, h7, h8, h9⟩ := e2
      subst h1 h2 h3 h4 h5 h6 h7 h8 h9
      exact ⟨_, fun_mk q c k⟩
    | _ => cases c
/-- records' first things -/
def recOf (o : Obj) : List Addr := match o.cls, o.data with
  | .type "property", .fields vs => vs.toList.flatMap He.refV
  | .type "classmethod", .fields vs => vs.toList.flatMap He.refV
  | _, _ => []
/-- the things in a tuple -/
def tupOf (o : Obj) : List Addr := match o.cls, o.data with
  | .type "tuple", .seq vs _ => vs.toList.flatMap He.refV
  | _, _ => []
def adsQ (g : Addr → Option Obj) : List Addr :=
  let l1 := reach g valsOf [mainGlobals]
  let l2 := reach g nsOf l1
  let l3 := reach g valsOf l2
  let l4 := reach g recOf l3
  mainGlobals :: sysModules :: (l1 ++ (l2 ++ (l3 ++ (l4 ++ (reach g tupOf l1 ++ reach g codeOf (l1 ++ (l3 ++ l4)))))))
def frQ (g : Addr → Option Obj) : PySem.W.Frag := He.frT g (adsQ g)
def obsC (F : PySem.W.Frag → Bool) (fn : List FnQ) (K : PySem.W.Frag) : He.Al :=
  (F K && fn.all fun d => PySem.W.keepIn K (.ref (d.way.ad K)) && codeAt K (d.way.ad K) d.qual, fn.map fun d => seenAt K (d.way.ad K))
def SaysC (F : PySem.W.Frag → Bool) (fn : List FnQ) (K : PySem.W.Frag) : Prop := obsC F fn K = (true, fn.map FnQ.val)
theorem SaysC.fact {F : PySem.W.Frag → Bool} {fn : List FnQ} {K : PySem.W.Frag} (c : SaysC F fn K) : F K = true :=
  (He.ba (congrArg (fun z : He.Al => z.1) c)).1
theorem SaysC.fun_ {F : PySem.W.Frag → Bool} {fn : List FnQ} {K : PySem.W.Frag} (c : SaysC F fn K) (i : Nat) {w : Way} {x q : Str} {st : Stmt} (h : fn[i]? = some ⟨w, x, q, st⟩ := by rfl) :
    ∃ fd, Fun K x q st (w.ad K) fd := by
  have c1 := (He.ba (congrArg (fun z : He.Al => z.1) c)).2
  obtain ⟨kp, cd⟩ := He.ba (List.all_eq_true.mp c1 _ (List.mem_of_getElem? h))
  have e : fn.map (fun d => seenAt K (d.way.ad K)) = fn.map FnQ.val := congrArg (fun z : He.Al => z.2) c
  have e2 : (fn.map fun d => seenAt K (d.way.ad K))[i]? = (fn.map FnQ.val)[i]? := by rw [e]
  rw [List.getElem?_map, List.getElem?_map, h] at e2
  exact def_ok (d := ⟨w, x, q, st⟩) (Option.some.inj e2) cd kp
structure SaysQ (F : PySem.W.Frag → Bool) (fn : List FnQ) (tf : List He.Defn) (h : Heap) (K : PySem.W.Frag) : Prop where
  core : SaysC F fn K
  hd : ∀ p ∈ tf, PySem.W.codeHdIn K (He.cT K p).1 (He.cT K p).2 = true
  out : ∀ p ∈ tf, K.lookup (He.cT K p).2 = none
  empty : ∀ p ∈ tf, h.get? (He.cT K p).2 = some { cls := .none, data := .fields #[] }
def obsQ (F : PySem.W.Frag → Bool) (fn : List FnQ) (tf : List He.Defn) (g : Addr → Option Obj) : He.Al × Bool := (obsC F fn (frQ g), He.tabsB g tf (frQ g))
theorem saysQ_of {F : PySem.W.Frag → Bool} {fn : List FnQ} {tf : List He.Defn} {h : Heap} (e : obsQ F fn tf h.get? = ((true, fn.map FnQ.val), true)) : SaysQ F fn tf h (frQ h.get?) := by
  have e1 : SaysC F fn (frQ h.get?) := congrArg (fun z : He.Al × Bool => z.1) e
  have e2 : He.tabsB h.get? tf (frQ h.get?) = true := congrArg (fun z : He.Al × Bool => z.2) e
  have all : ∀ p ∈ tf, PySem.W.codeHdIn (frQ h.get?) (He.cT (frQ h.get?) p).1 (He.cT (frQ h.get?) p).2 = true ∧ ∃ o, h.get? (He.cT (frQ h.get?) p).2 = some o ∧ He.emptyTab o = true := fun p hp => by
    obtain ⟨a, b⟩ := He.ba (List.all_eq_true.mp e2 p hp)
    cases q : h.get? (He.cT (frQ h.get?) p).2 with
    | none =>
      rw [q] at b
      cases b
    | some o =>
      rw [q] at b
      exact ⟨a, o, rfl, b⟩
  refine ⟨e1, fun p hp => (all p hp).1, fun p hp => ?_, fun p hp => ?_⟩
  · obtain ⟨_, o, q, z⟩ := all p hp
    exact He.frT_none q z
  · obtain ⟨_, o, q, z⟩ := all p hp
    exact q.trans (congrArg some (He.emptyTab_eq z))
def hookQ (F : PySem.W.Frag → Bool) (fn : List FnQ) (tf : List He.Defn) : PySem.W.Hook where
  α := He.Al × Bool
  obs := fun s => obsQ F fn tf s.heap.get?
  val := fun _ => ((true, fn.map FnQ.val), true)
  says := fun _ h => ∃ K : PySem.W.Frag, K.In h ∧ SaysQ F fn tf h K
  of := fun _ _ e => ⟨_, He.frT_in, saysQ_of e⟩
  keeps := fun _ _ _ ⟨K, hK, c⟩ k => ⟨K, PySem.W.Frag.In.keeps hK k, ⟨c.core, c.hd, c.out, fun p hp => k _ _ (c.empty p hp)⟩⟩
theorem obsQ_eq {F : PySem.W.Frag → Bool} {fn : List FnQ} {tf : List He.Defn} {g : Addr → Option Obj} {s : Shared} (h : ∀ a, g a = s.heap.get? a) : obsQ F fn tf g = (hookQ F fn tf).obs s := by
  rw [show g = s.heap.get? from funext h]
  rfl
/-! ### classes by Bools -/
/-- a plain own class that is made by its own __init__ -/
def mkB (K : PySem.W.Frag) (x : Str) : Bool := (He.Fa.cls x).ok K && (He.Fa.mkr x).ok K
theorem mkB_cls {K : PySem.W.Frag} {x : Str} (h : mkB K x = true) : Cls K (He.ga K x) := He.cls_ok (He.ba h).1
theorem mkB_mk {K : PySem.W.Frag} {x : Str} (h : mkB K x = true) : Mk K (He.ga K x) (Way.ad K (.meth x "__init__")) := He.mkr_ok (He.ba h).2
/-- x.m is a property -/
def propB (K : PySem.W.Frag) (x m : Str) : Bool :=
  let p := He.ma K (He.ga K x) m
  He.eqO (PySem.W.findIn K (.ref (He.ga K x)) m) (some (some (.ref p))) && (He.eqO (PySem.W.specialIn K (.ref p) "__get__") (some (some (.builtin "property.__get__"))) &&
    (decide (PySem.W.takesIn K (.ref p) = some true) && (match PySem.W.recIn K p "property" with
      | some (.ref _ :: _) => true
      | _ => false)))
theorem rec_first {K : PySem.W.Frag} {T : String} {p : Addr} (h : (match PySem.W.recIn K p T with
      | some (.ref _ :: _) => true
      | _ => false) = true) : ∃ rest, PySem.W.recIn K p T = some (.ref (recAd K T p) :: rest) := by
  unfold recAd
  cases e : PySem.W.recIn K p T with
  | none =>
    rw [e] at h
    cases h
  | some l =>
    rw [e] at h
    cases l with
    | nil => cases h
    | cons v r =>
      cases v with
      | ref g => exact ⟨r, rfl⟩
      | _ => cases h
theorem propB_ok {K : PySem.W.Frag} {x m : Str} (h : propB K x m = true) : PropOf K (He.ga K x) m (He.ma K (He.ga K x) m) (Way.ad K (.prop x m)) := by
  obtain ⟨h1, h⟩ := He.ba h
  obtain ⟨h2, h⟩ := He.ba h
  obtain ⟨h3, h4⟩ := He.ba h
  exact ⟨He.eqO_ok h1, He.eqO_ok h2, of_decide_eq_true h3, rec_first h4⟩
end Tc
/-! Texts of numbers and of stretches: written, cut, read back. -/
namespace Tc
open PySem TL
abbrev val (l : List Nat) : Nat := NumText.digitsVal l
/-! ### cut at the dashes -/
end Tc
/-! Data that repr shows, told by what bounds them. -/
namespace Tc
open PySem PySem.Spec PyProof.Rows L2
structure Fine (d : PyData) (n k : Nat) : Prop where
  lay : d.canLay0 = true
  sh : d.showable = true
  short : d.intsShort 13 = true
  wt : d.weight ≤ n
  dp : d.depth ≤ k
structure FineAll (ds : List PyData) (n k : Nat) : Prop where
  lay : PyData.canLayAll0 ds = true
  sh : PyData.showableAll ds = true
  short : PyData.intsShortAll 13 ds = true
  wt : PyData.weightAll ds ≤ n
  dp : PyData.depthAll ds ≤ k
theorem Fine.good {d : PyData} {n k : Nat} (f : Fine d n k) (hn : n ≤ 1000000) (hk : k ≤ 60) : Good d := by
  refine ⟨f.sh, Nat.le_trans f.dp (by omega), ?_⟩
  have l : PyData.layable0 d = true := by
    unfold PyData.layable0
    have h1 : decide (PyData.depth d ≤ 64) = true := decide_eq_true (Nat.le_trans f.dp (by omega))
    have h2 : decide (PyData.weight d ≤ 2 ^ 20) = true := decide_eq_true (Nat.le_trans f.wt (by omega))
    rw [f.lay, h1, h2]
    rfl
  exact Nat.le_trans (shown_le13 l f.short) (by decide)
theorem Fine.mono {d : PyData} {n k m l : Nat} (f : Fine d n k) (h1 : n ≤ m) (h2 : k ≤ l) : Fine d m l := ⟨f.lay, f.sh, f.short, Nat.le_trans f.wt h1, Nat.le_trans f.dp h2⟩
theorem Fine.non : Fine .none 0 0 := ⟨rfl, rfl, rfl, Nat.le_refl 0, Nat.le_refl 0⟩
theorem Fine.bl (b : Bool) : Fine (.bool b) 0 0 := ⟨rfl, rfl, rfl, Nat.le_refl 0, Nat.le_refl 0⟩
theorem Fine.str {x : Str} (h : x.cps.all (· < 0x110000) = true) : Fine (.str x) x.length 0 := ⟨h, rfl, rfl, Nat.le_refl _, Nat.le_refl 0⟩
theorem Fine.int {i : Int} (h0 : -1 ≤ i) (h1 : i ≤ 100000) : Fine (.int i) 18 0 := by
  have hb : i.natAbs < 2 ^ 17 := by omega
  have lg : i.natAbs.log2 < 17 := by
    by_cases e : i.natAbs = 0
    · rw [e]
      decide
    · exact (Nat.log2_lt e).mpr hb
  refine ⟨rfl, decide_eq_true (by omega), ?_, ?_, Nat.le_refl 0⟩
  · refine decide_eq_true ?_
    show (Str.ofString (toString i)).length ≤ 13
    by_cases z : i = -1
    · rw [z]
      decide
    · exact Nat.le_trans (PyProof.Rows.toString_length_le (by omega) (k := 6) (by decide) (by omega)) (by decide)
  · show (if i == 0 then 0 else i.natAbs.log2 + 1) ≤ 18
    split <;> omega
theorem FineAll.nil {k : Nat} : FineAll [] 0 k := ⟨rfl, rfl, rfl, Nat.le_refl 0, Nat.zero_le k⟩
theorem FineAll.cons {d : PyData} {ds : List PyData} {n m k l : Nat} (f : Fine d n l) (g : FineAll ds m k) (h : l ≤ k) : FineAll (d :: ds) (n + 1 + m) k := by
  refine ⟨?_, ?_, ?_, ?_, ?_⟩
  · show (d.canLay0 && PyData.canLayAll0 ds) = true
    rw [f.lay, g.lay] <;> rfl
  · show (d.showable && PyData.showableAll ds) = true
    rw [f.sh, g.sh] <;> rfl
  · show (d.intsShort 13 && PyData.intsShortAll 13 ds) = true
    rw [f.short, g.short] <;> rfl
  · show d.weight + 1 + PyData.weightAll ds ≤ _
    have := f.wt
    have := g.wt
    omega
  · show max d.depth (PyData.depthAll ds) ≤ k
    have := f.dp
    have := g.dp
    omega
theorem Fine.lst {ds : List PyData} {n k : Nat} (f : FineAll ds n k) : Fine (.list ds) n (k + 1) := ⟨f.lay, f.sh, f.short, f.wt, Nat.succ_le_succ f.dp⟩
theorem Fine.tup {ds : List PyData} {n k : Nat} (f : FineAll ds n k) : Fine (.tuple ds) n (k + 1) := ⟨f.lay, f.sh, f.short, f.wt, Nat.succ_le_succ f.dp⟩
end Tc
/-! list of a text. -/
namespace Tc
open PySem PySem.Spec PyProof.Rows L2 TL
end Tc
/-! A def whose code object is known, for those that make lambdas. -/
namespace Tc
open PySem PySem.Spec PyProof.Rows L2
end Tc
/-! Data and a list that changes. -/
namespace Tc
open PySem PySem.Spec PyProof.Rows L2
end Tc
/-! Data and tables. -/
namespace Tc
open PySem PySem.Spec PyProof.Rows L2
open LamX (Tabs TabS ExtN CodeO)
mutual
theorem Dv.ext {H H' : Hp} (s : ExtN H H') : ∀ {v : V} {d : PyData}, Dv H v d → Dv H' v d
  | _, _, .non => .non
  | _, _, .bl b => .bl b
  | _, _, .int i => .int i
  | _, _, .str x => .str x
  | _, _, .lst h a => .lst (h.elim (fun z => .inl (s _ _ z fun _ e => nomatch e)) fun ⟨o, z⟩ => .inr ⟨o, s _ _ z fun _ e => nomatch e⟩) (DvAll.ext s a)
  | _, _, .tup h a => .tup (h.elim (fun z => .inl (s _ _ z fun _ e => nomatch e)) fun ⟨o, z⟩ => .inr ⟨o, s _ _ z fun _ e => nomatch e⟩) (DvAll.ext s a)
  | _, _, .dct h a => .dct (h.elim (fun z => .inl (s _ _ z fun _ e => nomatch e)) fun ⟨o, z⟩ => .inr ⟨o, s _ _ z fun _ e => nomatch e⟩) (DvKv.ext s a)
  | _, _, .ins h a => .ins (s _ _ h fun _ e => nomatch e) (DvNm.ext s a)
theorem DvNm.ext {H H' : Hp} (s : ExtN H H') : ∀ {gs : List (Str × V)} {ds : List (PyData × PyData)}, DvNm H gs ds → DvNm H' gs ds
  | _, _, .nil => .nil
  | _, _, .cons a b => .cons (Dv.ext s a) (DvNm.ext s b)
theorem DvAll.ext {H H' : Hp} (s : ExtN H H') : ∀ {vs : List V} {ds : List PyData}, DvAll H vs ds → DvAll H' vs ds
  | _, _, .nil => .nil
  | _, _, .cons a b => .cons (Dv.ext s a) (DvAll.ext s b)
theorem DvKv.ext {H H' : Hp} (s : ExtN H H') : ∀ {kvs : List (Key × V)} {ds : List (PyData × PyData)}, DvKv H kvs ds → DvKv H' kvs ds
  | _, _, .nil => .nil
  | _, _, .cons a b => .cons (Dv.ext s a) (DvKv.ext s b)
end
end Tc
/-! Several clauses, each of them with a name: except A as n .. except B as n. -/
namespace Tc
open PySem PySem.Spec PyProof.Rows L2
end Tc
/-! List comprehensions of any number of clauses, clause by clause. -/
namespace Tc
open PySem PySem.Spec PyProof.Rows L2
end Tc
namespace Tc
open PySem PySem.Spec PyProof.Rows L2
section
variable {X : Cx}
/-- a short text, so many times -/
theorem op_mul_str : OpR X (binaryOp .Mult) (fun x y H Q => ∃ (i : Str) (k : Int), x = .str i ∧ y = .int k ∧ i.length ≤ 16 ∧ -(2 ^ 63) ≤ k ∧ k ≤ 1048576 ∧ Q (.str (Txt.mul i k)) H) := by
  intro pins s σ H x y v u Q I rx ry h
  obtain ⟨i, k, rfl, rfl, h1, h2, h3, q⟩ := h
  obtain ⟨t, rfl⟩ := rx
  obtain ⟨t', rfl⟩ := ry
  exact PySem.W.KXi.mul rfl h1 h2 h3 fun t' k' _ _ => ⟨.str (Txt.mul i k), H, I.tok _, ⟨_, rfl⟩, q⟩
variable {CX : CXT} {k : Nat} {ps : List Str} {sp : Sp} {E : XK} {x : Str} {p pos : Pos}
end
end Tc
/-! Programs on data: what a piece of the program does, told of data alone; the heap is kept by the rules. -/
namespace Px
open PySem PySem.Spec PyProof.Rows L2 Tc
/-! ### the weakest readings -/
section
variable (X : Cx)
@[irreducible] def teW (e : Expr) : TE := fun σ H Q => ∀ (pins : List (Addr × Obj)) (s : Shared), Inv X pins σ H s → wpAny (model X.prog X.w) X.A (eval e X.env) (EP X pins σ Q) X.xe s
@[irreducible] def ttW (e : Expr) : TT := fun σ H Q => ∀ (pins : List (Addr × Obj)) (s : Shared), Inv X pins σ H s → wpAny (model X.prog X.w) X.A (isTrue e X.env (eval e X.env)) (TP X pins σ Q) X.xe s
@[irreducible] def twW (e : Expr) : TT := fun σ H Q => ∀ (whole : Sem Value) (pins : List (Addr × Obj)) (s : Shared), Inv X pins σ H s → wpAny (model X.prog X.w) X.A (isTrue e X.env whole) (TP X pins σ Q) X.xe s
@[irreducible] def taW (es : List Expr) : TA := fun σ H Q => ∀ (pos : Pos) (pins : List (Addr × Obj)) (s : Shared), Inv X pins σ H s → wpAny (model X.prog X.w) X.A (spliced (backTo pos (starEach es X.env))) (AP X pins σ Q) X.xe s
@[irreducible] def tsW (st : Stmt) : TS := fun D σ H => ∀ (pins : List (Addr × Obj)) (s : Shared), Inv X pins σ H s → wpAny (model X.prog X.w) X.A (exec st X.env) (SP X pins D) X.xe s
@[irreducible] def tssW (st : List Stmt) : TS := fun D σ H => ∀ (pins : List (Addr × Obj)) (s : Shared), Inv X pins σ H s → wpAny (model X.prog X.w) X.A (execs st X.env) (SP X pins D) X.xe s
variable {X}
theorem teI {e : Expr} {σ : L2.St} {H : Hp} {Q : VK} (h : ∀ (pins : List (Addr × Obj)) (s : Shared), Inv X pins σ H s → wpAny (model X.prog X.w) X.A (eval e X.env) (EP X pins σ Q) X.xe s) : teW X e σ H Q := by unfold teW; exact h
theorem teE {e : Expr} {σ : L2.St} {H : Hp} {Q : VK} (h : teW X e σ H Q) : ∀ (pins : List (Addr × Obj)) (s : Shared), Inv X pins σ H s → wpAny (model X.prog X.w) X.A (eval e X.env) (EP X pins σ Q) X.xe s := by unfold teW at h; exact h
theorem ttI {e : Expr} {σ : L2.St} {H : Hp} {Q : Bool → Hp → Prop} (h : ∀ (pins : List (Addr × Obj)) (s : Shared), Inv X pins σ H s → wpAny (model X.prog X.w) X.A (isTrue e X.env (eval e X.env)) (TP X pins σ Q) X.xe s) : ttW X e σ H Q := by unfold ttW; exact h
theorem ttE {e : Expr} {σ : L2.St} {H : Hp} {Q : Bool → Hp → Prop} (h : ttW X e σ H Q) : ∀ (pins : List (Addr × Obj)) (s : Shared), Inv X pins σ H s → wpAny (model X.prog X.w) X.A (isTrue e X.env (eval e X.env)) (TP X pins σ Q) X.xe s := by unfold ttW at h; exact h
theorem twI {e : Expr} {σ : L2.St} {H : Hp} {Q : Bool → Hp → Prop} (h : ∀ (whole : Sem Value) (pins : List (Addr × Obj)) (s : Shared), Inv X pins σ H s → wpAny (model X.prog X.w) X.A (isTrue e X.env whole) (TP X pins σ Q) X.xe s) : twW X e σ H Q := by unfold twW; exact h
theorem twE {e : Expr} {σ : L2.St} {H : Hp} {Q : Bool → Hp → Prop} (h : twW X e σ H Q) : ∀ (whole : Sem Value) (pins : List (Addr × Obj)) (s : Shared), Inv X pins σ H s → wpAny (model X.prog X.w) X.A (isTrue e X.env whole) (TP X pins σ Q) X.xe s := by unfold twW at h; exact h
theorem taI {es : List Expr} {σ : L2.St} {H : Hp} {Q : List V → Hp → Prop} (h : ∀ (pos : Pos) (pins : List (Addr × Obj)) (s : Shared), Inv X pins σ H s → wpAny (model X.prog X.w) X.A (spliced (backTo pos (starEach es X.env))) (AP X pins σ Q) X.xe s) : taW X es σ H Q := by unfold taW; exact h
theorem taE {es : List Expr} {σ : L2.St} {H : Hp} {Q : List V → Hp → Prop} (h : taW X es σ H Q) : ∀ (pos : Pos) (pins : List (Addr × Obj)) (s : Shared), Inv X pins σ H s → wpAny (model X.prog X.w) X.A (spliced (backTo pos (starEach es X.env))) (AP X pins σ Q) X.xe s := by unfold taW at h; exact h
theorem tsI {st : Stmt} {D : Ends} {σ : L2.St} {H : Hp} (h : ∀ (pins : List (Addr × Obj)) (s : Shared), Inv X pins σ H s → wpAny (model X.prog X.w) X.A (exec st X.env) (SP X pins D) X.xe s) : tsW X st D σ H := by unfold tsW; exact h
theorem tsE {st : Stmt} {D : Ends} {σ : L2.St} {H : Hp} (h : tsW X st D σ H) : ∀ (pins : List (Addr × Obj)) (s : Shared), Inv X pins σ H s → wpAny (model X.prog X.w) X.A (exec st X.env) (SP X pins D) X.xe s := by unfold tsW at h; exact h
theorem tssI {st : List Stmt} {D : Ends} {σ : L2.St} {H : Hp} (h : ∀ (pins : List (Addr × Obj)) (s : Shared), Inv X pins σ H s → wpAny (model X.prog X.w) X.A (execs st X.env) (SP X pins D) X.xe s) : tssW X st D σ H := by unfold tssW; exact h
theorem tssE {st : List Stmt} {D : Ends} {σ : L2.St} {H : Hp} (h : tssW X st D σ H) : ∀ (pins : List (Addr × Obj)) (s : Shared), Inv X pins σ H s → wpAny (model X.prog X.w) X.A (execs st X.env) (SP X pins D) X.xe s := by unfold tssW at h; exact h
theorem pe_W {e : Expr} : PE X e (teW X e) := ⟨fun pins s _ _ _ I h => teE h pins s I⟩
theorem pt_W {e : Expr} : PT X e (ttW X e) := ⟨fun pins s _ _ _ I h => ttE h pins s I⟩
theorem pw_W {e : Expr} : PW X e (twW X e) := ⟨fun w pins s _ _ _ I h => twE h w pins s I⟩
theorem pa_W {es : List Expr} : PA X es (taW X es) := ⟨fun pos pins s _ _ _ I h => taE h pos pins s I⟩
theorem ps_W {st : Stmt} : PS X st (tsW X st) := ⟨fun pins s _ _ _ I h => tsE h pins s I⟩
theorem pss_W {st : List Stmt} : PSs X st (tssW X st) := ⟨fun pins s _ _ _ I h => tssE h pins s I⟩
theorem pe_of {e : Expr} {t : TE} (p : PE X e t) {σ : L2.St} {H : Hp} {Q : VK} (h : t σ H Q) : teW X e σ H Q := teI fun pins s I => p.run pins s σ H Q I h
theorem pt_of {e : Expr} {t : TT} (p : PT X e t) {σ : L2.St} {H : Hp} {Q : Bool → Hp → Prop} (h : t σ H Q) : ttW X e σ H Q := ttI fun pins s I => p.run pins s σ H Q I h
theorem pw_of {e : Expr} {t : TT} (p : PW X e t) {σ : L2.St} {H : Hp} {Q : Bool → Hp → Prop} (h : t σ H Q) : twW X e σ H Q := twI fun w pins s I => p.run w pins s σ H Q I h
theorem pa_of {es : List Expr} {t : TA} (p : PA X es t) {σ : L2.St} {H : Hp} {Q : List V → Hp → Prop} (h : t σ H Q) : taW X es σ H Q := taI fun pos pins s I => p.run pos pins s σ H Q I h
theorem ps_of {st : Stmt} {t : TS} (p : PS X st t) {D : Ends} {σ : L2.St} {H : Hp} (h : t D σ H) : tsW X st D σ H := tsI fun pins s I => p.run pins s σ H D I h
theorem pss_of {st : List Stmt} {t : TS} (p : PSs X st t) {D : Ends} {σ : L2.St} {H : Hp} (h : t D σ H) : tssW X st D σ H := tssI fun pins s I => p.run pins s σ H D I h
theorem star_cons {e : Expr} {es : List Expr} {env : Env} (h : (match e with | .Starred .. => false | _ => true) = true) : starEach (e :: es) env = (false, eval e env) :: starEach es env := by
  cases e <;> first | rfl | cases h
end
/-! ### what the slots hold -/
/-- nothing that is known; data; this very value; a list that no other slot's data has in it -/
inductive Sl where
  | no
  | d (x : PyData)
  | v (x : V)
  | own (a : Addr) (ds : List PyData)
/-- what stood before (fr), and what of it data may lie in (hs) -/
structure Bas where
  fr : Hp
  hs : Hp
  T : List (Addr × Str) := []
/-- it grows, beside what else stood -/
structure Grow (F Hs Hs' : Hp) : Prop where
  same : Same Hs Hs'
  off : ∀ b, Hs b = none → F b ≠ none → Hs' b = none
theorem Grow.refl (F Hs : Hp) : Grow F Hs Hs := ⟨Same.refl _, fun _ h _ => h⟩
theorem Grow.trans {F H1 H2 H3 : Hp} (a : Grow F H1 H2) (b : Grow F H2 H3) : Grow F H1 H3 := ⟨a.same.trans b.same, fun c h f => b.off c (a.off c h f) f⟩
theorem Grow.mono {F G H1 H2 : Hp} (a : Grow F H1 H2) (h : ∀ b, G b ≠ none → F b ≠ none) : Grow G H1 H2 := ⟨a.same, fun c n f => a.off c n (h c f)⟩
def SlOk (F Hs H : Hp) (o : Option (Option V)) : Sl → Prop
  | .no => True
  | .d x => ∃ v, o = some (some v) ∧ Dv Hs v x
  | .v x => o = some (some x)
  | .own a ds => o = some (some (.ref a)) ∧ F a = none ∧ Hs a = none ∧ ∃ vs, H a = some (.lst vs) ∧ DvAll Hs vs ds
/-- the tables of lambdas stand there, and no data is one of them -/
def TbN (T : List (Addr × Str)) (Hs H : Hp) : Prop := LamX.Tabs T H ∧ ∀ p ∈ T, Hs p.1 = none
/-- neither a table of lambdas nor a code -/
def noTb : HO → Bool
  | .tbl _ => false
  | .ext _ => false
  | _ => true
theorem tabs_put {T : List (Addr × Str)} {H H' : Hp} {a : Addr} {u : HO} (h : LamX.Tabs T H) (hv : H a = some u) (nu : noTb u = true) (k : ∀ b u, H b = some u → b ≠ a → H' b = some u) : LamX.Tabs T H' := fun p hp => by
  obtain ⟨ps, h1, h2, h3⟩ := h p hp
  have n1 : p.1 ≠ a := fun z => by rw [z, hv] at h1; cases h1; cases nu
  exact ⟨ps, k _ _ h1 n1, h2, fun pos cv e => by
    obtain ⟨c, e1, e2⟩ := h3 pos cv e
    have n2 : c ≠ a := fun z => by rw [z, hv] at e2; unfold LamX.CodeO at e2; cases e2; cases nu
    exact ⟨c, e1, k _ _ e2 n2⟩⟩
theorem tab_there {T : List (Addr × Str)} {Hs H : Hp} (h : TbN T Hs H) {p : Addr × Str} (hp : p ∈ T) : ∃ ps, H p.1 = some (.tbl ps) := by
  obtain ⟨ps, h1, _⟩ := h.1 p hp
  exact ⟨ps, h1⟩
theorem tabs_same {T : List (Addr × Str)} {Hs H H' : Hp} (h : TbN T Hs H) (s : Same H H') : TbN T Hs H' := ⟨fun p hp => by
  obtain ⟨ps, h1, h2, h3⟩ := h.1 p hp
  exact ⟨ps, s _ _ h1, h2, fun pos cv e => by
    obtain ⟨c, e1, e2⟩ := h3 pos cv e
    exact ⟨c, e1, s _ _ e2⟩⟩, h.2⟩
theorem tabs_new {T : List (Addr × Str)} {Hs H : Hp} {q : Addr} {o o2 : HO} (h : TbN T Hs H) (hq : H q = none) : TbN T (upd Hs q o) (upd H q o2) := ⟨(tabs_same h (Same.new hq)).1, fun p hp => by
  obtain ⟨ps, e⟩ := tab_there h hp
  have n : p.1 ≠ q := fun z => by rw [z, hq] at e; cases e
  rw [upd_ne n]
  exact h.2 p hp⟩
theorem tabs_step {T : List (Addr × Str)} {Hs H Hs' H' : Hp} (h : TbN T Hs H) (s : Same H H') (g : Grow H Hs Hs') : TbN T Hs' H' := ⟨(tabs_same h s).1, fun p hp => by
  obtain ⟨ps, e⟩ := tab_there h hp
  exact g.off _ (h.2 p hp) (by rw [e]; exact fun z => nomatch z)⟩
theorem tabs_fz {T : List (Addr × Str)} {Hs H : Hp} {a : Addr} {ws : List V} {o : HO} (h : TbN T Hs H) (hv : H a = some (.lst ws)) : TbN T (upd Hs a o) H := ⟨h.1, fun p hp => by
  obtain ⟨ps, e⟩ := tab_there h hp
  have n : p.1 ≠ a := fun z => by rw [z, hv] at e; cases e
  rw [upd_ne n]
  exact h.2 p hp⟩
theorem tabs_updT {T : List (Addr × Str)} {Hs H : Hp} {a : Addr} {u o : HO} (h : TbN T Hs H) (hv : H a = some u) (nu : noTb u = true) : TbN T Hs (upd H a o) := ⟨tabs_put h.1 hv nu fun b u e n => (upd_ne n).trans e, h.2⟩
theorem tabs_upd {T : List (Addr × Str)} {Hs H : Hp} {a : Addr} {ws : List V} {o : HO} (h : TbN T Hs H) (hv : H a = some (.lst ws)) : TbN T Hs (upd H a o) := tabs_updT h hv rfl
theorem tabs_pail {T : List (Addr × Str)} {Hs Hs' H H' : Hp} {a : Addr} {ws : List V} (h : TbN T Hs H) (hv : H a = some (.lst ws)) (k : ∀ b u, H b = some u → b ≠ a → H' b = some u) (g : Grow H Hs Hs') : TbN T Hs' H' := ⟨tabs_put h.1 hv rfl k, fun p hp => by
  obtain ⟨ps, e⟩ := tab_there h hp
  exact g.off _ (h.2 p hp) (by rw [e]; exact fun z => nomatch z)⟩
theorem tabs_nil {Hs H : Hp} : TbN [] Hs H := ⟨fun _ h => (nomatch h), fun _ h => (nomatch h)⟩
structure Sx (B : Bas) (Hs : Hp) (σ : L2.St) (H : Hp) (Γ : List Sl) : Prop where
  fr : Same B.fr H
  gr : Grow B.fr B.hs Hs
  sub : Same Hs H
  len : σ.length = Γ.length
  sl : ∀ (i : Nat) (s : Sl), Γ[i]? = some s → SlOk B.fr Hs H σ[i]? s
  ap : ∀ (i j : Nat) (a : Addr) (ds : List PyData) (b : Addr) (es : List PyData), Γ[i]? = some (.own a ds) → Γ[j]? = some (.own b es) → i ≠ j → a ≠ b
  tb : TbN B.T Hs H
section
variable {B : Bas} {Hs : Hp} {σ : L2.St} {H : Hp} {Γ : List Sl}
theorem Sx.dat (S : Sx B Hs σ H Γ) {i : Nat} {x : PyData} (h : Γ[i]? = some (.d x)) : ∃ v, σ[i]? = some (some v) ∧ Dv Hs v x := S.sl i _ h
theorem Sx.val (S : Sx B Hs σ H Γ) {i : Nat} {x : V} (h : Γ[i]? = some (.v x)) : σ[i]? = some (some x) := S.sl i _ h
theorem Sx.lst (S : Sx B Hs σ H Γ) {i : Nat} {a : Addr} {ds : List PyData} (h : Γ[i]? = some (.own a ds)) : σ[i]? = some (some (.ref a)) ∧ B.fr a = none ∧ Hs a = none ∧ ∃ vs, H a = some (.lst vs) ∧ DvAll Hs vs ds := S.sl i _ h
theorem ne_new {H : Hp} {p b : Addr} {o : HO} (h : H p = none) (e : H b = some o) : b ≠ p := fun z => by rw [z, h] at e; cases e
theorem both {Hs H : Hp} {p : Addr} {o : HO} (s : Same Hs H) : Same (upd Hs p o) (upd H p o) := fun b u e => by
  by_cases z : b = p
  · subst z
    rw [upd_same] at e ⊢
    exact e
  · rw [upd_ne z] at e ⊢
    exact s b u e
/-- the slots stay where the data grow and no list of theirs changes -/
theorem SlOk.mono {F Hs Hs' H H' : Hp} {o : Option (Option V)} {s : Sl} (h : SlOk F Hs H o s) (k : Same Hs Hs') (l : ∀ a ds, s = .own a ds → Hs' a = none ∧ H' a = H a) : SlOk F Hs' H' o s := by
  cases s with
  | no => exact trivial
  | d x =>
    obtain ⟨v, e, d⟩ := h
    exact ⟨v, e, d.mono k⟩
  | v x => exact h
  | own a ds =>
    obtain ⟨e, f, n, vs, hv, hd⟩ := h
    obtain ⟨n', e'⟩ := l a ds rfl
    exact ⟨e, f, n', vs, e'.trans hv, hd.mono k⟩
/-- a new object, to be data -/
theorem Sx.new (S : Sx B Hs σ H Γ) {p : Addr} {o : HO} (hp : H p = none) : Same Hs (upd Hs p o) ∧ Sx B (upd Hs p o) σ (upd H p o) Γ := by
  have hsp := S.sub.free hp
  have k : Same Hs (upd Hs p o) := Same.new hsp
  refine ⟨k, fun b u e => (Same.new hp) b u (S.fr b u e), S.gr.trans ⟨k, fun b n f => ?_⟩, both S.sub, S.len, fun i s h => (S.sl i s h).mono k fun a ds e => ?_, S.ap, tabs_new S.tb hp⟩
  · have : b ≠ p := by
      rintro rfl
      cases q : B.fr b with
      | none => exact f q
      | some u => exact nomatch (S.fr b u q).symm.trans hp
    exact (upd_ne this).trans n
  · subst e
    obtain ⟨_, _, n, vs, hv, _⟩ := S.lst h
    have : a ≠ p := ne_new hp hv
    exact ⟨(upd_ne this).trans n, upd_ne this⟩
/-- a new object that is no data (yet) -/
theorem Sx.aside (S : Sx B Hs σ H Γ) {p : Addr} {o : HO} (hp : H p = none) : Sx B Hs σ (upd H p o) Γ := by
  refine ⟨fun b u e => (Same.new hp) b u (S.fr b u e), S.gr, fun b u e => (Same.new hp) b u (S.sub b u e), S.len, fun i s h => (S.sl i s h).mono (Same.refl _) fun a ds e => ?_, S.ap, tabs_same S.tb (Same.new hp)⟩
  subst e
  obtain ⟨_, _, n, vs, hv, _⟩ := S.lst h
  exact ⟨n, upd_ne (ne_new hp hv)⟩
/-- all slots of the heap go on to another one -/
theorem Sx.step (S : Sx B Hs σ H Γ) {Hs' H' : Hp} (k : Grow H Hs Hs') (s : Same H H') (u : Same Hs' H') : Same Hs Hs' ∧ Sx B Hs' σ H' Γ := by
  refine ⟨k.same, S.fr.trans s, S.gr.trans (k.mono fun b f => ?_), u, S.len, fun i x h => (S.sl i x h).mono k.same fun a ds e => ?_, S.ap, tabs_step S.tb s k⟩
  · cases q : B.fr b with
    | none => exact absurd q f
    | some o =>
      rw [S.fr b o q]
      exact fun z => nomatch z
  · subst e
    obtain ⟨_, _, n, vs, hv, _⟩ := S.lst h
    exact ⟨k.off a n (by rw [hv]; exact fun z => nomatch z), (s a _ hv).trans hv.symm⟩
theorem get_set {α : Type} {l : List α} {i j : Nat} {x s : α} (h : (l.set i x)[j]? = some s) : (j = i ∧ s = x) ∨ (j ≠ i ∧ l[j]? = some s) := by
  by_cases e : i = j
  · subst e
    rw [List.getElem?_set] at h
    simp only [if_true] at h
    split at h
    · exact .inl ⟨rfl, (Option.some.inj h).symm⟩
    · cases h
  · rw [List.getElem?_set_ne e] at h
    exact .inr ⟨fun z => e z.symm, h⟩
/-- a slot is given data, or what is no list of its own -/
theorem Sx.put (S : Sx B Hs σ H Γ) {i : Nat} {v : V} {s : Sl} (hs : ∀ a ds, s ≠ .own a ds) (hi : i < Γ.length) (h : SlOk B.fr Hs H (some (some v)) s) : Sx B Hs (σ.set i (some v)) H (Γ.set i s) := by
  refine ⟨S.fr, S.gr, S.sub, by rw [List.length_set, List.length_set]; exact S.len, fun j t e => ?_, fun j k a ds b es e1 e2 n => ?_, S.tb⟩
  · rcases get_set e with ⟨rfl, rfl⟩ | ⟨n, e⟩
    · rw [List.getElem?_set_self (by rw [S.len]; exact hi)]
      exact h
    · rw [List.getElem?_set_ne fun z => n z.symm]
      exact S.sl j t e
  · rcases get_set e1 with ⟨rfl, z⟩ | ⟨n1, e1⟩
    · exact absurd z.symm (hs a ds)
    · rcases get_set e2 with ⟨rfl, z⟩ | ⟨n2, e2⟩
      · exact absurd z.symm (hs b es)
      · exact S.ap j k a ds b es e1 e2 n
theorem Sx.putD (S : Sx B Hs σ H Γ) {i : Nat} {v : V} {x : PyData} (hi : i < Γ.length) (h : Dv Hs v x) : Sx B Hs (σ.set i (some v)) H (Γ.set i (.d x)) := S.put (fun _ _ z => nomatch z) hi ⟨v, rfl, h⟩
/-- a list of no other one's -/
def Alone (Γ : List Sl) (a : Addr) : Prop := ∀ (i : Nat) (b : Addr) (es : List PyData), Γ[i]? = some (.own b es) → b ≠ a
/-- a slot is given a list of its own -/
theorem Sx.putL (S : Sx B Hs σ H Γ) {i : Nat} {a : Addr} {vs : List V} {ds : List PyData} (hi : i < Γ.length) (f : B.fr a = none) (n : Hs a = none) (ha : H a = some (.lst vs)) (h : DvAll Hs vs ds) (al : Alone Γ a) : Sx B Hs (σ.set i (some (.ref a))) H (Γ.set i (.own a ds)) := by
  refine ⟨S.fr, S.gr, S.sub, by rw [List.length_set, List.length_set]; exact S.len, fun j t e => ?_, fun j k b es c fs e1 e2 n => ?_, S.tb⟩
  · rcases get_set e with ⟨rfl, rfl⟩ | ⟨n, e⟩
    · rw [List.getElem?_set_self (by rw [S.len]; exact hi)]
      exact ⟨rfl, f, ‹_›, vs, ha, h⟩
    · rw [List.getElem?_set_ne fun z => n z.symm]
      exact S.sl j t e
  · rcases get_set e1 with ⟨rfl, z⟩ | ⟨n1, d1⟩
    · rcases get_set e2 with ⟨rfl, z2⟩ | ⟨n2, d2⟩
      · exact absurd rfl n
      · cases z
        exact fun z => al k c fs d2 z.symm
    · rcases get_set e2 with ⟨rfl, z2⟩ | ⟨n2, d2⟩
      · cases z2
        exact al j b es d1
      · exact S.ap j k b es c fs d1 d2 n
/-- it becomes data, and is no longer changed -/
theorem Sx.freeze (S : Sx B Hs σ H Γ) {i : Nat} {a : Addr} {ds : List PyData} (h : Γ[i]? = some (.own a ds)) : ∃ Hs', Same Hs Hs' ∧ Sx B Hs' σ H (Γ.set i (.d (.list ds))) ∧ Dv Hs' (.ref a) (.list ds) := by
  obtain ⟨e, f, n, vs, hv, hd⟩ := S.lst h
  have k : Same Hs (upd Hs a (.lst vs)) := Same.new n
  have dv : Dv (upd Hs a (.lst vs)) (.ref a) (.list ds) := .lst (.inl upd_same) (hd.mono k)
  refine ⟨upd Hs a (.lst vs), k, ⟨S.fr, S.gr.trans ⟨k, fun b nb fb => ?_⟩, fun b u eb => ?_, by rw [List.length_set]; exact S.len, fun j t ej => ?_, fun j l b es c fs e1 e2 ne => ?_, tabs_fz S.tb hv⟩, dv⟩
  · have : b ≠ a := fun z => fb (z ▸ f)
    exact (upd_ne this).trans nb
  · by_cases z : b = a
    · subst z
      rw [upd_same] at eb
      rw [hv]
      exact eb
    · rw [upd_ne z] at eb
      exact S.sub b u eb
  · rcases get_set ej with ⟨rfl, rfl⟩ | ⟨nj, ej⟩
    · exact ⟨_, e, dv⟩
    · refine (S.sl j t ej).mono k fun b es z => ?_
      subst z
      obtain ⟨_, _, nb, _⟩ := S.lst ej
      exact ⟨(upd_ne (S.ap j i b es a ds ej h nj)).trans nb, rfl⟩
  · rcases get_set e1 with ⟨_, z⟩ | ⟨_, e1⟩
    · cases z
    · rcases get_set e2 with ⟨_, z⟩ | ⟨_, e2⟩
      · cases z
      · exact S.ap j l b es c fs e1 e2 ne
/-- such a list is changed -/
theorem Sx.upd (S : Sx B Hs σ H Γ) {i : Nat} {a : Addr} {ds es : List PyData} {vs : List V} (h : Γ[i]? = some (.own a ds)) (d : DvAll Hs vs es) : Sx B Hs σ (L2.upd H a (.lst vs)) (Γ.set i (.own a es)) := by
  obtain ⟨e, f, n, ws, hv, hd⟩ := S.lst h
  refine ⟨fun b u eb => ?_, S.gr, fun b u eb => ?_, by rw [List.length_set]; exact S.len, fun j t ej => ?_, fun j l b fs c gs e1 e2 ne => ?_, tabs_upd S.tb hv⟩
  · have : b ≠ a := fun z => by rw [z, f] at eb; cases eb
    exact (upd_ne this).trans (S.fr b u eb)
  · have : b ≠ a := fun z => by rw [z, n] at eb; cases eb
    exact (upd_ne this).trans (S.sub b u eb)
  · rcases get_set ej with ⟨rfl, rfl⟩ | ⟨nj, ej⟩
    · exact ⟨e, f, n, vs, upd_same, d⟩
    · refine (S.sl j t ej).mono (Same.refl _) fun b fs z => ?_
      subst z
      obtain ⟨_, _, nb, _⟩ := S.lst ej
      exact ⟨nb, upd_ne (S.ap j i b fs a ds ej h nj)⟩
  · rcases get_set e1 with ⟨rfl, z⟩ | ⟨n1, d1⟩
    · cases z
      rcases get_set e2 with ⟨rfl, z⟩ | ⟨n2, d2⟩
      · exact absurd rfl ne
      · exact (S.ap l j c gs a ds d2 h n2).symm
    · rcases get_set e2 with ⟨rfl, z⟩ | ⟨n2, d2⟩
      · cases z
        exact S.ap j l b fs a ds d1 h n1
      · exact S.ap j l b fs c gs d1 d2 ne
end
end Px
/-! What a piece does to data: the judgements, and the rules of expressions. -/
namespace Px
open PySem PySem.Spec PyProof.Rows L2 Tc
section
variable (B : Bas) (X : Cx)
/-- an expression gives data -/
def GE (e : Expr) (Γ : List Sl) (φ : PyData → List Sl → Prop) : Prop := ∀ (Hs : Hp) (σ : L2.St) (H : Hp) (Q : VK), Sx B Hs σ H Γ →
  (∀ d Γ' v Hs' H', φ d Γ' → Same Hs Hs' → Sx B Hs' σ H' Γ' → Dv Hs' v d → Q v H') → teW X e σ H Q
/-- data to be looked at, a list of one's own too -/
def GB (e : Expr) (Γ : List Sl) (φ : PyData → List Sl → Prop) : Prop := ∀ (Hs : Hp) (σ : L2.St) (H : Hp) (Q : VK), Sx B Hs σ H Γ →
  (∀ d Γ' v Hs' H', φ d Γ' → Same Hs Hs' → Sx B Hs' σ H' Γ' → Dv H' v d → Q v H') → teW X e σ H Q
/-- a new list -/
def GF (e : Expr) (Γ : List Sl) (φ : List PyData → List Sl → Prop) : Prop := ∀ (Hs : Hp) (σ : L2.St) (H : Hp) (Q : VK), Sx B Hs σ H Γ →
  (∀ ds Γ' a vs Hs' H', φ ds Γ' → Same Hs Hs' → Sx B Hs' σ H' Γ' → B.fr a = none → Hs' a = none → Alone Γ' a → H' a = some (.lst vs) → DvAll Hs' vs ds → Q (.ref a) H') → teW X e σ H Q
/-- a list (k) or a tuple, its items data -/
def GQ (k : Bool) (e : Expr) (Γ : List Sl) (φ : List PyData → List Sl → Prop) : Prop := ∀ (Hs : Hp) (σ : L2.St) (H : Hp) (Q : VK), Sx B Hs σ H Γ →
  (∀ ds Γ' a vs Hs' H', φ ds Γ' → Same Hs Hs' → Sx B Hs' σ H' Γ' → (if k = true then SqL X.K H' a vs else SqT X.K H' a vs) → DvAll Hs' vs ds → Q (.ref a) H') → teW X e σ H Q
/-- a test -/
def GT (e : Expr) (Γ : List Sl) (φ : Bool → List Sl → Prop) : Prop := ∀ (Hs : Hp) (σ : L2.St) (H : Hp) (Q : Bool → Hp → Prop), Sx B Hs σ H Γ →
  (∀ b Γ' Hs' H', φ b Γ' → Same Hs Hs' → Sx B Hs' σ H' Γ' → Q b H') → ttW X e σ H Q
def GW (e : Expr) (Γ : List Sl) (φ : Bool → List Sl → Prop) : Prop := ∀ (Hs : Hp) (σ : L2.St) (H : Hp) (Q : Bool → Hp → Prop), Sx B Hs σ H Γ →
  (∀ b Γ' Hs' H', φ b Γ' → Same Hs Hs' → Sx B Hs' σ H' Γ' → Q b H') → twW X e σ H Q
/-- arguments -/
def GA (es : List Expr) (Γ : List Sl) (φ : List PyData → List Sl → Prop) : Prop := ∀ (Hs : Hp) (σ : L2.St) (H : Hp) (Q : List V → Hp → Prop), Sx B Hs σ H Γ →
  (∀ ds Γ' vs Hs' H', φ ds Γ' → Same Hs Hs' → Sx B Hs' σ H' Γ' → DvAll Hs' vs ds → Q vs H') → taW X es σ H Q
end
section
variable {B : Bas} {X : Cx} {Γ : List Sl} {pos : Pos}
/-! ### from one to another -/
theorem gb_of {e : Expr} {φ : PyData → List Sl → Prop} (h : GE B X e Γ φ) : GB B X e Γ φ := fun Hs σ H Q S k => h Hs σ H Q S fun d Γ' v Hs' H' p s T q => k d Γ' v Hs' H' p s T (q.mono T.sub)
theorem ge_ofF {e : Expr} {φ : PyData → List Sl → Prop} (h : GF B X e Γ fun ds Γ' => φ (.list ds) Γ') : GE B X e Γ φ := fun Hs σ H Q S k => h Hs σ H Q S fun ds Γ' a vs Hs' H' p s T f n al ha q => by
  have g : Same Hs' (upd Hs' a (.lst vs)) := Same.new n
  refine k (.list ds) Γ' (.ref a) (upd Hs' a (.lst vs)) H' p (s.trans g) ⟨T.fr, T.gr.trans ⟨g, fun b nb fb => ?_⟩, fun b u eb => ?_, T.len, fun j t ej => (T.sl j t ej).mono g fun b es z => ?_, T.ap, tabs_fz T.tb ha⟩ (.lst (.inl upd_same) (q.mono g))
  · exact (upd_ne fun z => fb (by rw [z]; exact f)).trans nb
  · by_cases z : b = a
    · subst z
      rw [upd_same] at eb
      rw [ha]
      exact eb
    · rw [upd_ne z] at eb
      exact T.sub b u eb
  · subst z
    obtain ⟨_, _, nb, _⟩ := T.lst ej
    exact ⟨(upd_ne (al j b es ej)).trans nb, rfl⟩
theorem rdL {K : PySem.W.Frag} {H : Hp} {a : Addr} {xs : List V} (h : Rd H a (.lst xs)) : SqL K H a xs := .inl h
theorem rdT {K : PySem.W.Frag} {H : Hp} {a : Addr} {xs : List V} (h : Rd H a (.tup xs)) : SqT K H a xs := .inl h
theorem rd_up {H H' : Hp} (s : Same H H') {a : Addr} {u : HO} (h : Rd H a u) : Rd H' a u := by
  rcases h with h | ⟨o, h⟩
  · exact .inl (s _ _ h)
  · exact .inr ⟨o, s _ _ h⟩
/-- data that are a list, a tuple -/
theorem gq_of {k : Bool} {e : Expr} {φ : List PyData → List Sl → Prop} (h : GE B X e Γ fun d Γ' => ∃ ds, d = (if k = true then .list ds else .tuple ds) ∧ φ ds Γ') : GQ B X k e Γ φ := fun Hs σ H Q S g => h Hs σ H Q S fun d Γ' v Hs' H' ⟨ds, e, p⟩ s T q => by
  subst e
  cases k with
  | true =>
    cases q with
    | lst r a => exact g ds Γ' _ _ Hs' H' p s T (rdL (rd_up T.sub r)) a
  | false =>
    cases q with
    | tup r a => exact g ds Γ' _ _ Hs' H' p s T (rdT (rd_up T.sub r)) a
theorem gq_ofF {e : Expr} {φ : List PyData → List Sl → Prop} (h : GF B X e Γ φ) : GQ B X true e Γ φ := fun Hs σ H Q S g => h Hs σ H Q S fun ds Γ' a vs Hs' H' p s T f n al ha q => g ds Γ' a vs Hs' H' p s T (.inl (.inl ha)) q
theorem gt_ofE {e : Expr} {φ : Bool → List Sl → Prop} (h : GE B X e Γ fun d Γ' => ∃ b, d = .bool b ∧ φ b Γ') (he : ∀ whole, isTrue e X.env whole = (do let v ← whole; standAt e.pos; holding [v] (truthy v)) := by intro _; rfl) : GT B X e Γ φ := fun Hs σ H Q S g =>
  pt_of (pt_val pe_W he) (show teW X e σ H _ from h Hs σ H _ S fun d Γ' v Hs' H' ⟨b, e, p⟩ s T q => by
    subst e
    cases q
    exact ⟨b, rfl, g b Γ' Hs' H' p s T⟩)
/-! ### names and constants -/
theorem ge_name (i : Nat) {x : Str} {y : PyData} {φ : PyData → List Sl → Prop} (hN : X.N[i]? = some x) (hΓ : Γ[i]? = some (.d y)) (hv : Vis X.env.scope x) (h : φ y Γ) (hd : (x == ("__debug__" : Str)) = false := by decide) (hcd : (x == ("__classdict__" : Str)) = false := by decide) :
    GE B X (.Name x pos) Γ φ := fun Hs σ H Q S g => by
  obtain ⟨v, e, d⟩ := S.dat hΓ
  exact pe_of (pe_var hN hv hd hcd) ⟨v, e, g y Γ v Hs H h (Same.refl _) S d⟩
/-- a list of one's own, given away -/
theorem ge_give (i : Nat) {x : Str} {a : Addr} {ds : List PyData} {φ : PyData → List Sl → Prop} (hN : X.N[i]? = some x) (hΓ : Γ[i]? = some (.own a ds)) (hv : Vis X.env.scope x) (h : φ (.list ds) (Γ.set i (.d (.list ds)))) (hd : (x == ("__debug__" : Str)) = false := by decide) (hcd : (x == ("__classdict__" : Str)) = false := by decide) :
    GE B X (.Name x pos) Γ φ := fun Hs σ H Q S g => by
  obtain ⟨Hs', k, T, d⟩ := S.freeze hΓ
  obtain ⟨e, _⟩ := S.lst hΓ
  exact pe_of (pe_var hN hv hd hcd) ⟨.ref a, e, g _ _ _ Hs' H h k T d⟩
theorem gq_own (i : Nat) {x : Str} {a : Addr} {ds : List PyData} {φ : List PyData → List Sl → Prop} (hN : X.N[i]? = some x) (hΓ : Γ[i]? = some (.own a ds)) (hv : Vis X.env.scope x) (h : φ ds Γ) (hd : (x == ("__debug__" : Str)) = false := by decide) (hcd : (x == ("__classdict__" : Str)) = false := by decide) :
    GQ B X true (.Name x pos) Γ φ := fun Hs σ H Q S g => by
  obtain ⟨e, f, n, vs, hv', d⟩ := S.lst hΓ
  exact pe_of (pe_var hN hv hd hcd) ⟨.ref a, e, g _ _ _ _ Hs H h (Same.refl _) S (.inl (.inl hv')) d⟩
theorem ge_con {e : Expr} {v : V} {d : PyData} {φ : PyData → List Sl → Prop} (p : PE X e (tC v)) (hd : ∀ H, Dv H v d) (h : φ d Γ) : GE B X e Γ φ := fun Hs σ H Q S g => pe_of p (g d Γ v Hs H h (Same.refl _) S (hd Hs))
theorem ge_int {i : Int} {j : Nat} {φ : PyData → List Sl → Prop} (h : φ (.int i) Γ) : GE B X (.Constant (.int i) j pos) Γ φ := ge_con pe_int (fun _ => .int i) h
theorem ge_str {i : Str} {j : Nat} {φ : PyData → List Sl → Prop} (h : φ (.str i) Γ) : GE B X (.Constant (.str i) j pos) Γ φ := ge_con pe_str (fun _ => .str i) h
theorem ge_bool {i : Bool} {j : Nat} {φ : PyData → List Sl → Prop} (h : φ (.bool i) Γ) : GE B X (.Constant (.bool i) j pos) Γ φ := ge_con pe_bl (fun _ => .bl i) h
theorem ge_none {j : Nat} {φ : PyData → List Sl → Prop} (h : φ .none Γ) : GE B X (.Constant .none j pos) Γ φ := ge_con pe_non (fun _ => .non) h
theorem ge_num {x : Str} {n : Int} {φ : PyData → List Sl → Prop} (hm : ∃ t, X.mg x = some (.int n t)) (hg : Gl X x) (h : φ (.int n) Γ) (hd : (x == ("__debug__" : Str)) = false := by decide) : GE B X (.Name x pos) Γ φ := ge_con (pe_num hm hg hd) (fun _ => .int n) h
/-! ### arguments, displays -/
theorem ga_nil {φ : List PyData → List Sl → Prop} (h : φ [] Γ) : GA B X [] Γ φ := fun Hs σ H Q S g => pa_of pa_nil (g [] Γ [] Hs H h (Same.refl _) S .nil)
theorem ga_cons {e : Expr} {es : List Expr} {φ : List PyData → List Sl → Prop} (h : GE B X e Γ fun d Γ1 => GA B X es Γ1 fun ds Γ2 => φ (d :: ds) Γ2) (hs : starEach (e :: es) X.env = (false, eval e X.env) :: starEach es X.env := by rfl) : GA B X (e :: es) Γ φ := fun Hs σ H Q S g =>
  pa_of (pa_cons pe_W pa_W hs) (h Hs σ H _ S fun d Γ1 v Hs1 H1 p s1 S1 dv => p Hs1 σ H1 _ S1 fun ds Γ2 vs Hs2 H2 q s2 S2 dvs => g (d :: ds) Γ2 (v :: vs) Hs2 H2 q (s1.trans s2) S2 (.cons (dv.mono s2) dvs))
theorem ge_tup {es : List Expr} {x1 : Nat} {φ : PyData → List Sl → Prop} (h : GA B X es Γ fun ds Γ' => ds.length ≤ sizeLine ∧ φ (.tuple ds) Γ') : GE B X (.Tuple es x1 pos) Γ φ := fun Hs σ H Q S g =>
  pe_of (pe_tup pa_W) (h Hs σ H _ S fun ds Γ' vs Hs' H' ⟨l, p⟩ s T dv => ⟨by rw [dv.len]; exact l, fun q hq => by
    obtain ⟨k, U⟩ := T.new (o := .tup vs) hq
    exact g (.tuple ds) Γ' (.ref q) _ _ p (s.trans k) U (.tup (.inl upd_same) (dv.mono k))⟩)
theorem alone_new {Hs : Hp} {σ : L2.St} {H : Hp} (S : Sx B Hs σ H Γ) {q : Addr} (hq : H q = none) : B.fr q = none ∧ Hs q = none ∧ Alone Γ q := ⟨S.fr.free hq, S.sub.free hq, fun i b es e z => by
  obtain ⟨_, _, _, vs, hv, _⟩ := S.lst e
  rw [z, hq] at hv
  cases hv⟩
theorem gf_list {es : List Expr} {φ : List PyData → List Sl → Prop} (h : GA B X es Γ fun ds Γ' => ds.length ≤ sizeLine ∧ φ ds Γ') : GF B X (.List es pos) Γ φ := fun Hs σ H Q S g =>
  pe_of (pe_lst pa_W) (h Hs σ H _ S fun ds Γ' vs Hs' H' ⟨l, p⟩ s T dv => ⟨by rw [dv.len]; exact l, fun q hq => by
    obtain ⟨f, n, al⟩ := alone_new T hq
    exact g ds Γ' q vs Hs' _ p s (T.aside hq) f n al upd_same dv⟩)
end
end Px
/-! Operators and comparisons, by the data. -/
namespace Px
open PySem PySem.Spec PyProof.Rows L2 Tc
theorem dvs_append {H : Hp} : ∀ {vs : List V} {ds : List PyData} {ws : List V} {es : List PyData}, DvAll H vs ds → DvAll H ws es → DvAll H (vs ++ ws) (ds ++ es)
  | _, _, _, _, .nil, h => h
  | _, _, _, _, .cons a r, h => .cons a (dvs_append r h)
theorem dvs_rep {H : Hp} {vs : List V} {ds : List PyData} (h : DvAll H vs ds) : ∀ n : Nat, DvAll H (List.replicate n vs).flatten (List.replicate n ds).flatten
  | 0 => .nil
  | n + 1 => by
    rw [List.replicate_succ, List.replicate_succ, List.flatten_cons, List.flatten_cons]
    exact dvs_append h (dvs_rep h n)
theorem dvs_get {H : Hp} : ∀ {vs : List V} {ds : List PyData} {i : Nat} {d : PyData}, DvAll H vs ds → ds[i]? = some d → ∃ v, vs[i]? = some v ∧ Dv H v d
  | _, _, _, _, .nil, e => by simp at e
  | _, _, 0, _, .cons a _, e => by
    simp at e
    subst e
    exact ⟨_, rfl, a⟩
  | _, _, i + 1, d, .cons _ r, e => by
    obtain ⟨v, h1, h2⟩ := dvs_get (i := i) (d := d) r (by simpa using e)
    exact ⟨v, by simpa using h1, h2⟩
theorem dvs_get' {H : Hp} : ∀ {vs : List V} {ds : List PyData} {i : Nat} {v : V}, DvAll H vs ds → vs[i]? = some v → ∃ d, ds[i]? = some d ∧ Dv H v d
  | _, _, _, _, .nil, e => by simp at e
  | _, _, 0, _, .cons a _, e => by
    simp at e
    subst e
    exact ⟨_, rfl, a⟩
  | _, _, i + 1, d, .cons _ r, e => by
    obtain ⟨v, h1, h2⟩ := dvs_get' (i := i) (v := d) r (by simpa using e)
    exact ⟨v, by simpa using h1, h2⟩
theorem dvs_drop {H : Hp} : ∀ {vs : List V} {ds : List PyData} (n : Nat), DvAll H vs ds → DvAll H (vs.drop n) (ds.drop n)
  | _, _, 0, h => h
  | _, _, _ + 1, .nil => .nil
  | _, _, n + 1, .cons _ r => dvs_drop n r
theorem dvs_take {H : Hp} : ∀ {vs : List V} {ds : List PyData} (n : Nat), DvAll H vs ds → DvAll H (vs.take n) (ds.take n)
  | _, _, 0, _ => .nil
  | _, _, _ + 1, .nil => .nil
  | _, _, n + 1, .cons a r => .cons a (dvs_take n r)
theorem dvs_set {H : Hp} : ∀ {vs : List V} {ds : List PyData} {v : V} {d : PyData} (i : Nat), DvAll H vs ds → Dv H v d → DvAll H (vs.set i v) (ds.set i d)
  | _, _, _, _, _, .nil, _ => .nil
  | _, _, _, _, 0, .cons _ r, h => .cons h r
  | _, _, _, _, i + 1, .cons a r, h => .cons a (dvs_set i r h)
theorem dvs_snoc {H : Hp} {vs : List V} {ds : List PyData} {v : V} {d : PyData} (h : DvAll H vs ds) (g : Dv H v d) : DvAll H (vs ++ [v]) (ds ++ [d]) := dvs_append h (.cons g .nil)
theorem dvs_nil {H : Hp} {vs : List V} (h : DvAll H vs []) : vs = [] := by cases h; rfl
theorem dvs_ints {H : Hp} : ∀ {vs : List V} {ns : List Int}, DvAll H vs (ns.map PyData.int) → vs = ns.map V.int
  | _, [], .nil => rfl
  | _, _ :: _, .cons a r => by
    cases a
    rw [dvs_ints r] <;> rfl
theorem dvs_strs {H : Hp} : ∀ {vs : List V} {ns : List Str}, DvAll H vs (ns.map PyData.str) → vs = ns.map V.str
  | _, [], .nil => rfl
  | _, _ :: _, .cons a r => by
    cases a
    rw [dvs_strs r] <;> rfl
section
variable {B : Bas} {X : Cx} {Γ : List Sl} {pos : Pos}
/-! ### a two-place operation -/
def Op2 (B : Bas) (r : R2) (d1 d2 : PyData) (k : PyData → Prop) : Prop := ∀ (Γ : List Sl) (Hs : Hp) (σ : L2.St) (H : Hp) (v1 v2 : V) (Q : VK), Sx B Hs σ H Γ → Dv Hs v1 d1 → Dv Hs v2 d2 →
  (∀ d v Hs' H', k d → Same Hs Hs' → Sx B Hs' σ H' Γ → Dv Hs' v d → Q v H') → r v1 v2 H Q
theorem ge_op {op : Operator} {r : R2} {a b : Expr} {φ : PyData → List Sl → Prop} (ho : OpR X (binaryOp op) r) (R : PyData → PyData → (PyData → Prop) → Prop) (sem : ∀ d1 d2 k, R d1 d2 k → Op2 B r d1 d2 k)
    (h : GE B X a Γ fun d1 Γ1 => GE B X b Γ1 fun d2 Γ2 => R d1 d2 fun d => φ d Γ2) : GE B X (.BinOp a op b pos) Γ φ := fun Hs σ H Q S g =>
  pe_of (pe_op ho pe_W pe_W) (h Hs σ H _ S fun d1 Γ1 v1 Hs1 H1 p s1 S1 q1 => p Hs1 σ H1 _ S1 fun d2 Γ2 v2 Hs2 H2 p2 s2 S2 q2 =>
    sem d1 d2 _ p2 Γ2 Hs2 σ H2 v1 v2 Q S2 (q1.mono s2) q2 fun d v Hs3 H3 kd s3 S3 q3 => g d Γ2 v Hs3 H3 kd (s1.trans (s2.trans s3)) S3 q3)
theorem or_op {f : Value → Value → Sem Value} {r r' : R2} (h : OpR X f r) (h' : OpR X f r') : OpR X f (fun x y H Q => r x y H Q ∨ r' x y H Q) := fun pins s σ H x y v u Q I rx ry q => q.elim (h pins s σ H x y v u Q I rx ry) (h' pins s σ H x y v u Q I rx ry)
def rCatR : R2 := fun x y H Q => ∃ l b xs zs, x = .ref l ∧ y = .ref b ∧ Rd H l (.lst xs) ∧ Rd H b (.lst zs) ∧ xs.length + zs.length ≤ sizeLine ∧ ∀ p, H p = none → Q (.ref p) (upd H p (.lst (xs ++ zs)))
theorem op_catR : OpR X (binaryOp .Add) rCatR := by
  intro pins s σ H x y v u Q I rx ry h
  obtain ⟨l, b, xs, zs, rfl, rfl, hH, hB, hz, q⟩ := h
  cases rx
  cases ry
  obtain ⟨z, its, n, r, e⟩ := hH.ok I.hok
  obtain ⟨z2, its2, n2, r2, e2⟩ := hB.ok I.hok
  have l1 := r.length
  have l2 := r2.length
  refine PySem.P.add_list e e2 ?_ (by rw [List.size_toArray, List.size_toArray]; omega)
  have ea : its.toArray ++ its2.toArray = (its ++ its2).toArray := by simp
  rw [ea]
  exact ⟨.ref _, _, I.lnew (t' := s.toks) (r.append r2) (by rw [List.length_append]; omega), rfl, q _ I.fresh⟩
def AddD (d1 d2 : PyData) (k : PyData → Prop) : Prop := match d1, d2 with
  | .int i, .int j => k (.int (i + j))
  | .str x, .str y => x.length + y.length ≤ sizeLine ∧ k (.str (x ++ y))
  | .tuple xs, .tuple ys => xs.length + ys.length ≤ sizeLine ∧ k (.tuple (xs ++ ys))
  | .list xs, .list ys => xs.length + ys.length ≤ sizeLine ∧ k (.list (xs ++ ys))
  | _, _ => False
def rAddA (K : PySem.W.Frag) : R2 := fun x y H Q => (rI0 fun i j => .int (i + j)) x y H Q ∨ ((∃ i j, x = .str i ∧ y = .str j ∧ i.length + j.length ≤ sizeLine ∧ Q (.str (i ++ j)) H) ∨ (rCatA K x y H Q ∨ rCatR x y H Q))
theorem op_addA : OpR X (binaryOp .Add) (rAddA X.K) := or_op op_add (or_op op_add_str (or_op op_catA op_catR))
theorem tup_new {Hs : Hp} {σ : L2.St} {H : Hp} (S : Sx B Hs σ H Γ) {vs : List V} {ds : List PyData} (h : DvAll Hs vs ds) {Q : VK} (q : ∀ v Hs' H', Same Hs Hs' → Sx B Hs' σ H' Γ → Dv Hs' v (.tuple ds) → Q v H') (p : Addr) (hp : H p = none) : Q (.ref p) (upd H p (.tup vs)) := by
  obtain ⟨k, U⟩ := S.new (o := .tup vs) hp
  exact q _ _ _ k U (.tup (.inl upd_same) (h.mono k))
theorem lst_new {Hs : Hp} {σ : L2.St} {H : Hp} (S : Sx B Hs σ H Γ) {vs : List V} {ds : List PyData} (h : DvAll Hs vs ds) {Q : VK} (q : ∀ v Hs' H', Same Hs Hs' → Sx B Hs' σ H' Γ → Dv Hs' v (.list ds) → Q v H') (p : Addr) (hp : H p = none) : Q (.ref p) (upd H p (.lst vs)) := by
  obtain ⟨k, U⟩ := S.new (o := .lst vs) hp
  exact q _ _ _ k U (.lst (.inl upd_same) (h.mono k))
theorem sem_add {K : PySem.W.Frag} (d1 d2 : PyData) (k : PyData → Prop) (h : AddD d1 d2 k) : Op2 B (rAddA K) d1 d2 k := by
  intro Γ Hs σ H v1 v2 Q S q1 q2 g
  cases q1 with
  | int i =>
    cases q2 with
    | int j => exact .inl ⟨i, j, rfl, rfl, g _ _ Hs H h (Same.refl _) S (.int _)⟩
    | _ => exact h.elim
  | str x =>
    cases q2 with
    | str y => exact .inr (.inl ⟨x, y, rfl, rfl, h.1, g _ _ Hs H h.2 (Same.refl _) S (.str _)⟩)
    | _ => exact h.elim
  | @tup a xs ds r1 a1 =>
    cases q2 with
    | @tup b ys es r2 a2 =>
      obtain ⟨hl, hk⟩ := h
      refine .inr (.inr (.inl ⟨a, b, xs, ys, rfl, rfl, rdT (rd_up S.sub r1), rdT (rd_up S.sub r2), by rw [a1.len, a2.len]; exact hl, fun e => ?_, fun _ e => ?_, fun _ _ p hp => ?_⟩))
      · subst e
        cases a1
        exact g _ _ Hs H hk (Same.refl _) S (.tup r2 a2)
      · subst e
        cases a2
        rw [List.append_nil] at hk
        exact g _ _ Hs H hk (Same.refl _) S (.tup r1 a1)
      · exact tup_new S (dvs_append a1 a2) (fun v Hs' H' s T q => g _ v Hs' H' hk s T q) p hp
    | _ => exact h.elim
  | @lst a xs ds r1 a1 =>
    cases q2 with
    | @lst b ys es r2 a2 =>
      obtain ⟨hl, hk⟩ := h
      exact .inr (.inr (.inr ⟨a, b, xs, ys, rfl, rfl, rd_up S.sub r1, rd_up S.sub r2, by rw [a1.len, a2.len]; exact hl, lst_new S (dvs_append a1 a2) fun v Hs' H' s T q => g _ v Hs' H' hk s T q⟩))
    | _ => exact h.elim
  | _ => exact h.elim
theorem ge_add {a b : Expr} {φ : PyData → List Sl → Prop} (h : GE B X a Γ fun d1 Γ1 => GE B X b Γ1 fun d2 Γ2 => AddD d1 d2 fun d => φ d Γ2) : GE B X (.BinOp a .Add b pos) Γ φ := ge_op op_addA AddD sem_add h
def IntD (C : Int → Int → Prop) (f : Int → Int → Int) (d1 d2 : PyData) (k : PyData → Prop) : Prop := match d1, d2 with
  | .int i, .int j => C i j ∧ k (.int (f i j))
  | _, _ => False
theorem sem_int {C : Int → Int → Prop} {f : Int → Int → Int} (d1 d2 : PyData) (k : PyData → Prop) (h : IntD C f d1 d2 k) : Op2 B (rI C fun i j => .int (f i j)) d1 d2 k := by
  intro Γ Hs σ H v1 v2 Q S q1 q2 g
  cases q1 with
  | int i =>
    cases q2 with
    | int j => exact ⟨i, j, rfl, rfl, h.1, g _ _ Hs H h.2 (Same.refl _) S (.int _)⟩
    | _ => exact h.elim
  | _ => exact h.elim
def Int0 (f : Int → Int → Int) (d1 d2 : PyData) (k : PyData → Prop) : Prop := match d1, d2 with
  | .int i, .int j => k (.int (f i j))
  | _, _ => False
theorem sem_int0 {f : Int → Int → Int} (d1 d2 : PyData) (k : PyData → Prop) (h : Int0 f d1 d2 k) : Op2 B (rI0 fun i j => .int (f i j)) d1 d2 k := by
  intro Γ Hs σ H v1 v2 Q S q1 q2 g
  cases q1 with
  | int i =>
    cases q2 with
    | int j => exact ⟨i, j, rfl, rfl, g _ _ Hs H h (Same.refl _) S (.int _)⟩
    | _ => exact h.elim
  | _ => exact h.elim
theorem ge_sub {a b : Expr} {φ : PyData → List Sl → Prop} (h : GE B X a Γ fun d1 Γ1 => GE B X b Γ1 fun d2 Γ2 => Int0 (· - ·) d1 d2 fun d => φ d Γ2) : GE B X (.BinOp a .Sub b pos) Γ φ := ge_op op_sub (Int0 (· - ·)) sem_int0 h
/-- small numbers (one below 2^64), or with fewer than a million bits together -/
def MulOk (i j : Int) : Prop := CMul i j ∨ CMulW i j
theorem op_mulA : OpR X (binaryOp .Mult) (rI MulOk fun i j => .int (i * j)) := fun pins s σ H x y v u Q I rx ry ⟨i, j, e1, e2, c, q⟩ => c.elim (fun c => op_mul pins s σ H x y v u Q I rx ry ⟨i, j, e1, e2, c, q⟩) fun c => op_mulW pins s σ H x y v u Q I rx ry ⟨i, j, e1, e2, c, q⟩
def rRepL (K : PySem.W.Frag) : R2 := fun x y H Q => (rI MulOk fun i j => .int (i * j)) x y H Q ∨ ((∃ (i : Str) (k : Int), x = .str i ∧ y = .int k ∧ i.length ≤ 16 ∧ -(2 ^ 63) ≤ k ∧ k ≤ 1048576 ∧ Q (.str (Txt.mul i k)) H) ∨ rRepT K x y H Q)
theorem op_mulD : OpR X (binaryOp .Mult) (rRepL X.K) := or_op op_mulA (or_op op_mul_str op_repT)
def MulD (d1 d2 : PyData) (k : PyData → Prop) : Prop := match d1, d2 with
  | .int i, .int j => MulOk i j ∧ k (.int (i * j))
  | .str x, .int j => (x.length ≤ 16 ∧ -(2 ^ 63) ≤ j ∧ j ≤ 1048576) ∧ k (.str (Txt.mul x j))
  | .tuple xs, .int j => (xs ≠ [] ∧ 2 ≤ j ∧ j ≤ 1000 ∧ xs.length ≤ 1000) ∧ k (.tuple (List.replicate j.toNat xs).flatten)
  | _, _ => False
theorem sem_mul {K : PySem.W.Frag} (d1 d2 : PyData) (k : PyData → Prop) (h : MulD d1 d2 k) : Op2 B (rRepL K) d1 d2 k := by
  intro Γ Hs σ H v1 v2 Q S q1 q2 g
  cases q1 with
  | int i =>
    cases q2 with
    | int j => exact .inl ⟨i, j, rfl, rfl, h.1, g _ _ Hs H h.2 (Same.refl _) S (.int _)⟩
    | _ => exact h.elim
  | str x =>
    cases q2 with
    | int j => exact .inr (.inl ⟨x, j, rfl, rfl, h.1.1, h.1.2.1, h.1.2.2, g _ _ Hs H h.2 (Same.refl _) S (.str _)⟩)
    | _ => exact h.elim
  | @tup a xs ds r1 a1 =>
    cases q2 with
    | int j =>
      obtain ⟨⟨h1, h2, h3, h4⟩, hk⟩ := h
      refine .inr (.inr ⟨a, j, xs, rfl, rfl, rdT (rd_up S.sub r1), fun e => h1 (by subst e; cases a1; rfl), h2, h3, by rw [a1.len]; exact h4, tup_new S (dvs_rep a1 _) fun v Hs' H' s T q => g _ v Hs' H' hk s T q⟩)
    | _ => exact h.elim
  | _ => exact h.elim
theorem ge_mul {a b : Expr} {φ : PyData → List Sl → Prop} (h : GE B X a Γ fun d1 Γ1 => GE B X b Γ1 fun d2 Γ2 => MulD d1 d2 fun d => φ d Γ2) : GE B X (.BinOp a .Mult b pos) Γ φ := ge_op op_mulD MulD sem_mul h
theorem ge_mod {a b : Expr} {φ : PyData → List Sl → Prop} (h : GE B X a Γ fun d1 Γ1 => GE B X b Γ1 fun d2 Γ2 => IntD (fun _ j => 0 < j) (fun i j => i % j) d1 d2 fun d => φ d Γ2) : GE B X (.BinOp a .Mod b pos) Γ φ := ge_op op_mod (IntD (fun _ j => 0 < j) fun i j => i % j) sem_int h
theorem ge_fdiv {a b : Expr} {φ : PyData → List Sl → Prop} (h : GE B X a Γ fun d1 Γ1 => GE B X b Γ1 fun d2 Γ2 => IntD CDivW (fun i j => i / j) d1 d2 fun d => φ d Γ2) : GE B X (.BinOp a .FloorDiv b pos) Γ φ := ge_op op_fdivW (IntD CDivW fun i j => i / j) sem_int h
end
end Px
/-! Comparisons, tests, places of sequences, lengths. -/
namespace Px
open PySem PySem.Spec PyProof.Rows L2 Tc
/-- what stands round a piece: room for calls, no repr runs, the modules' own dict is not touched -/
structure Cxt (X : Cx) (k : Nat) : Prop where
  room : Room k X.A
  gd : X.A.guards = some []
  sm : ∃ o, X.K.lookup sysModules = some o
theorem Cxt.mono {X : Cx} {j k : Nat} (c : Cxt X k) (h : j ≤ k) : Cxt X j := ⟨c.room.mono h, c.gd, c.sm⟩
section
variable {B : Bas} {X : Cx} {Γ : List Sl} {pos : Pos}
/-! ### comparisons -/
def Cmp2 (r : R2) (d1 d2 : PyData) (k : Bool → Prop) : Prop := ∀ (H : Hp) (v1 v2 : V) (Q : VK), Dv H v1 d1 → Dv H v2 d2 → (∀ b, k b → Q (.bl b) H) → r v1 v2 H Q
theorem ge_cmp {op : CmpOp} {r : R2} {a b : Expr} {φ : PyData → List Sl → Prop} (ho : OpR X (compareOp op) r) (R : PyData → PyData → (Bool → Prop) → Prop) (sem : ∀ d1 d2 k, R d1 d2 k → Cmp2 r d1 d2 k) (hm : behindInMarks op b = false)
    (h : GE B X a Γ fun d1 Γ1 => GB B X b Γ1 fun d2 Γ2 => R d1 d2 fun c => φ (.bool c) Γ2) : GE B X (.Compare a [op] [b] pos) Γ φ := fun Hs σ H Q S g =>
  pe_of (pe_cmpR ho pe_W pe_W hm) (h Hs σ H _ S fun d1 Γ1 v1 Hs1 H1 p s1 S1 q1 => p Hs1 σ H1 _ S1 fun d2 Γ2 v2 Hs2 H2 p2 s2 S2 q2 =>
    sem d1 d2 _ p2 H2 v1 v2 Q ((q1.mono s2).mono S2.sub) q2 fun c kc => g _ Γ2 _ Hs2 H2 kc (s1.trans s2) S2 (.bl c))
theorem gt_cmp {op : CmpOp} {r : R2} {a b : Expr} {φ : Bool → List Sl → Prop} (ho : OpR X (compareOp op) r) (R : PyData → PyData → (Bool → Prop) → Prop) (sem : ∀ d1 d2 k, R d1 d2 k → Cmp2 r d1 d2 k) (hm : behindInMarks op b = false)
    (h : GE B X a Γ fun d1 Γ1 => GB B X b Γ1 fun d2 Γ2 => R d1 d2 fun c => φ c Γ2) : GT B X (.Compare a [op] [b] pos) Γ φ := fun Hs σ H Q S g =>
  pt_of (pt_cmpR ho pe_W pe_W hm) (h Hs σ H _ S fun d1 Γ1 v1 Hs1 H1 p s1 S1 q1 => p Hs1 σ H1 _ S1 fun d2 Γ2 v2 Hs2 H2 p2 s2 S2 q2 =>
    sem d1 d2 _ p2 H2 v1 v2 _ ((q1.mono s2).mono S2.sub) q2 fun c kc => ⟨c, rfl, g _ Γ2 Hs2 H2 kc (s1.trans s2) S2⟩)
/-- ==: two of the plain kinds, or two that are plain all through -/
def plain2 : PyData → PyData → Bool
  | .none, .none => true | .none, .int _ => true | .int _, .none => true | .none, .bool _ => true | .bool _, .none => true | .none, .str _ => true | .str _, .none => true
  | .int _, .int _ => true | .bool _, .bool _ => true | .str _, .str _ => true
  | .int _, .str _ => true | .str _, .int _ => true | .bool _, .str _ => true | .str _, .bool _ => true
  | _, _ => false
def rEqA : R2 := fun x y H Q => rEq x y H Q ∨ ∃ d e, Dv H x d ∧ Dv H y e ∧ SeqAt.shaped d = true ∧ SeqAt.shaped e = true ∧ Q (.bl (PyData.eqv d e)) H
theorem sm_none {pins : List (Addr × Obj)} {σ : L2.St} {H : Hp} {s : Shared} (hsm : ∃ o, X.K.lookup sysModules = some o) (I : Inv X pins σ H s) : H sysModules = none := by
  obtain ⟨o, ho⟩ := hsm
  exact (I.bs _ _ (I.ok.mod.kin _ _ ho)).2
theorem shaped_nd {d : PyData} (h : SeqAt.shaped d = true) : d.hasDict = false := PyData.hasDict_of_canLay d (SeqAt.canLay_of_shaped h)
theorem op_eqA {k : Nat} (c : Cxt X k) : OpR X (compareOp .Eq) rEqA := by
  intro pins s σ H x y v u Q I rx ry h
  rcases h with h | ⟨d, e, hd, he, sd, se, q⟩
  · exact op_eq pins s σ H x y v u Q I rx ry h
  · obtain ⟨as, r1, _⟩ := hd.reads clean_noDict I (sm_none c.sm I) (shaped_nd sd) v rx
    obtain ⟨bs, r2, _⟩ := he.reads clean_noDict I (sm_none c.sm I) (shaped_nd se) u ry
    exact SeqAt.compareEq_shaped r1 r2 sd se c.room.units ⟨.bl _, H, I, rfl, q⟩
def EqD (d1 d2 : PyData) (k : Bool → Prop) : Prop := (plain2 d1 d2 = true ∨ (SeqAt.shaped d1 = true ∧ SeqAt.shaped d2 = true)) ∧ k (PyData.eqv d1 d2)
theorem plain_dec {H : Hp} {v1 v2 : V} {d1 d2 : PyData} (h : plain2 d1 d2 = true) (q1 : Dv H v1 d1) (q2 : Dv H v2 d2) : scal v1 v2 = true ∧ decide (v1 = v2) = PyData.eqv d1 d2 := by
  cases q1 <;> cases q2 <;> first
    | exact Bool.noConfusion h
    | exact ⟨rfl, rfl⟩
    | exact ⟨rfl, dec_int⟩
    | exact ⟨rfl, dec_bl⟩
    | exact ⟨rfl, dec_str⟩
    | exact ⟨rfl, decide_eq_false fun z => nomatch z⟩
theorem sem_eq (d1 d2 : PyData) (k : Bool → Prop) (h : EqD d1 d2 k) : Cmp2 rEqA d1 d2 k := fun H v1 v2 Q q1 q2 g => by
  obtain ⟨h | ⟨h1, h2⟩, hk⟩ := h
  · obtain ⟨e1, e2⟩ := plain_dec h q1 q2
    exact .inl ⟨e1, by rw [e2]; exact g _ hk⟩
  · exact .inr ⟨d1, d2, q1, q2, h1, h2, g _ hk⟩
def OrdD (p : Int → Int → Bool) (d1 d2 : PyData) (k : Bool → Prop) : Prop := match d1, d2 with
  | .int i, .int j => k (p i j)
  | _, _ => False
theorem sem_ord {p : Int → Int → Bool} (d1 d2 : PyData) (k : Bool → Prop) (h : OrdD p d1 d2 k) : Cmp2 (rI0 fun i j => .bl (p i j)) d1 d2 k := fun H v1 v2 Q q1 q2 g => by
  cases q1 with
  | int i =>
    cases q2 with
    | int j => exact ⟨i, j, rfl, rfl, g _ h⟩
    | _ => exact h.elim
  | _ => exact h.elim
abbrev LtD := OrdD fun i j => decide (i < j)
abbrev LeD := OrdD fun i j => decide (i ≤ j)
abbrev GtD := OrdD fun i j => decide (j < i)
abbrev GeD := OrdD fun i j => decide (j ≤ i)
def isN : PyData → Bool
  | .none => true
  | _ => false
def IsND (d1 d2 : PyData) (k : Bool → Prop) : Prop := match d2 with
  | .none => k (isN d1)
  | _ => False
def NotND (d1 d2 : PyData) (k : Bool → Prop) : Prop := match d2 with
  | .none => k (!isN d1)
  | _ => False
theorem isN_dec {H : Hp} {v : V} {d : PyData} (q : Dv H v d) : decide (v = .non) = isN d := by
  cases q <;> first | rfl | exact decide_eq_false fun z => nomatch z
theorem sem_isN (d1 d2 : PyData) (k : Bool → Prop) (h : IsND d1 d2 k) : Cmp2 (fun x y H Q => y = .non ∧ Q (.bl (decide (x = .non))) H) d1 d2 k := fun H v1 v2 Q q1 q2 g => by
  cases q2 with
  | non => exact ⟨rfl, by rw [isN_dec q1]; exact g _ h⟩
  | _ => exact h.elim
theorem sem_notN (d1 d2 : PyData) (k : Bool → Prop) (h : NotND d1 d2 k) : Cmp2 (fun x y H Q => y = .non ∧ Q (.bl (!decide (x = .non))) H) d1 d2 k := fun H v1 v2 Q q1 q2 g => by
  cases q2 with
  | non => exact ⟨rfl, by rw [isN_dec q1]; exact g _ h⟩
  | _ => exact h.elim
section
variable {a b : Expr} {φ : PyData → List Sl → Prop} {ψ : Bool → List Sl → Prop} {k : Nat}
theorem ge_eq (c : Cxt X k) (h : GE B X a Γ fun d1 Γ1 => GB B X b Γ1 fun d2 Γ2 => EqD d1 d2 fun c => φ (.bool c) Γ2) : GE B X (.Compare a [.Eq] [b] pos) Γ φ := ge_cmp (op_eqA c) EqD sem_eq (nomark _) h
theorem ge_le (h : GE B X a Γ fun d1 Γ1 => GB B X b Γ1 fun d2 Γ2 => LeD d1 d2 fun c => φ (.bool c) Γ2) : GE B X (.Compare a [.LtE] [b] pos) Γ φ := ge_cmp op_le LeD sem_ord (nomark _) h
theorem ge_ge (h : GE B X a Γ fun d1 Γ1 => GB B X b Γ1 fun d2 Γ2 => GeD d1 d2 fun c => φ (.bool c) Γ2) : GE B X (.Compare a [.GtE] [b] pos) Γ φ := ge_cmp op_ge GeD sem_ord (nomark _) h
theorem gt_eq (c : Cxt X k) (h : GE B X a Γ fun d1 Γ1 => GB B X b Γ1 fun d2 Γ2 => EqD d1 d2 fun c => ψ c Γ2) : GT B X (.Compare a [.Eq] [b] pos) Γ ψ := gt_cmp (op_eqA c) EqD sem_eq (nomark _) h
theorem gt_lt (h : GE B X a Γ fun d1 Γ1 => GB B X b Γ1 fun d2 Γ2 => LtD d1 d2 fun c => ψ c Γ2) : GT B X (.Compare a [.Lt] [b] pos) Γ ψ := gt_cmp op_lt LtD sem_ord (nomark _) h
theorem gt_gt (h : GE B X a Γ fun d1 Γ1 => GB B X b Γ1 fun d2 Γ2 => GtD d1 d2 fun c => ψ c Γ2) : GT B X (.Compare a [.Gt] [b] pos) Γ ψ := gt_cmp op_gt GtD sem_ord (nomark _) h
theorem gt_ge (h : GE B X a Γ fun d1 Γ1 => GB B X b Γ1 fun d2 Γ2 => GeD d1 d2 fun c => ψ c Γ2) : GT B X (.Compare a [.GtE] [b] pos) Γ ψ := gt_cmp op_ge GeD sem_ord (nomark _) h
theorem gt_isN (h : GE B X a Γ fun d1 Γ1 => GB B X b Γ1 fun d2 Γ2 => IsND d1 d2 fun c => ψ c Γ2) : GT B X (.Compare a [.Is] [b] pos) Γ ψ := gt_cmp op_isN IsND sem_isN (nomark _) h
theorem gt_notN (h : GE B X a Γ fun d1 Γ1 => GB B X b Γ1 fun d2 Γ2 => NotND d1 d2 fun c => ψ c Γ2) : GT B X (.Compare a [.IsNot] [b] pos) Γ ψ := gt_cmp op_notN NotND sem_notN (nomark _) h
end
/-- a <= b <= c -/
theorem gt_chain {op op' : CmpOp} {r r' : R2} {a b c : Expr} {φ : Bool → List Sl → Prop} (ho : OpR X (compareOp op) r) (ho' : OpR X (compareOp op') r') (R R' : PyData → PyData → (Bool → Prop) → Prop) (sem : ∀ d1 d2 k, R d1 d2 k → Cmp2 r d1 d2 k) (sem' : ∀ d1 d2 k, R' d1 d2 k → Cmp2 r' d1 d2 k)
    (h : GE B X a Γ fun d1 Γ1 => GE B X b Γ1 fun d2 Γ2 => R d1 d2 fun t => if t = true then GE B X c Γ2 fun d3 Γ3 => R' d2 d3 fun u => φ u Γ3 else φ false Γ2)
    (hm : lastMarks [op, op'] [b, c] = false := by with_unfolding_all rfl) : GT B X (.Compare a [op, op'] [b, c] pos) Γ φ := fun Hs σ H Q S g =>
  pt_of (pt_chain ho ho' pe_W pe_W pe_W hm) (h Hs σ H _ S fun d1 Γ1 v1 Hs1 H1 p s1 S1 q1 => p Hs1 σ H1 _ S1 fun d2 Γ2 v2 Hs2 H2 p2 s2 S2 q2 =>
    sem d1 d2 _ p2 H2 v1 v2 _ ((q1.mono s2).mono S2.sub) (q2.mono S2.sub) fun t kt => ⟨t, rfl, by
      cases t with
      | true =>
        have kt : GE B X c Γ2 fun d3 Γ3 => R' d2 d3 fun u => φ u Γ3 := kt
        exact iteT (kt Hs2 σ H2 _ S2 fun d3 Γ3 v3 Hs3 H3 p3 s3 S3 q3 => sem' d2 d3 _ p3 H3 v2 v3 _ ((q2.mono s3).mono S3.sub) (q3.mono S3.sub) fun u ku => ⟨u, rfl, g u Γ3 Hs3 H3 ku (s1.trans (s2.trans s3)) S3⟩)
      | false => exact iteF ⟨false, rfl, g false Γ2 Hs2 H2 kt (s1.trans s2) S2⟩⟩)
/-! ### not, and, or -/
section
variable {a b c : Expr} {rest : List Expr} {φ : Bool → List Sl → Prop} {ψ : PyData → List Sl → Prop}
theorem gt_not (h : GT B X a Γ fun t Γ1 => φ (!t) Γ1) : GT B X (.UnaryOp .Not a pos) Γ φ := fun Hs σ H Q S g =>
  pt_of (pt_not pt_W) (h Hs σ H (fun t H' => Q (!t) H') S fun t Γ1 Hs1 H1 p s1 S1 => g _ Γ1 Hs1 H1 p s1 S1)
theorem gt_bool {op : BoolOp} {es : List Expr} (h : GW B X (.BoolOp op es pos) Γ φ) : GT B X (.BoolOp op es pos) Γ φ := fun Hs σ H Q S g => pt_of pw_W.pt (h Hs σ H Q S g)
theorem gw_or1 (h : GT B X a Γ φ) : GW B X (.BoolOp .Or [a] pos) Γ φ := fun Hs σ H Q S g => pw_of (pw_or1 pt_W) (h Hs σ H Q S g)
theorem gw_or (h : GT B X a Γ fun t Γ1 => if t = true then φ true Γ1 else GW B X (.BoolOp .Or (b :: rest) pos) Γ1 φ) : GW B X (.BoolOp .Or (a :: b :: rest) pos) Γ φ := fun Hs σ H Q S g =>
  pw_of (pw_or pt_W pw_W) (h Hs σ H _ S fun t Γ1 Hs1 H1 p s1 S1 => by
    cases t with
    | true => exact iteT (g true Γ1 Hs1 H1 p s1 S1)
    | false =>
      have p : GW B X (.BoolOp .Or (b :: rest) pos) Γ1 φ := p
      exact iteF (p Hs1 σ H1 Q S1 fun u Γ2 Hs2 H2 q s2 S2 => g u Γ2 Hs2 H2 q (s1.trans s2) S2))
theorem gw_and (h : GT B X a Γ fun t Γ1 => if t = true then GW B X (.BoolOp .And (b :: rest) pos) Γ1 φ else φ false Γ1) : GW B X (.BoolOp .And (a :: b :: rest) pos) Γ φ := fun Hs σ H Q S g =>
  pw_of (pw_and pt_W pw_W) (h Hs σ H _ S fun t Γ1 Hs1 H1 p s1 S1 => by
    cases t with
    | false => exact iteF (g false Γ1 Hs1 H1 p s1 S1)
    | true =>
      have p : GW B X (.BoolOp .And (b :: rest) pos) Γ1 φ := p
      exact iteT (p Hs1 σ H1 Q S1 fun u Γ2 Hs2 H2 q s2 S2 => g u Γ2 Hs2 H2 q (s1.trans s2) S2))
theorem ge_not (h : GE B X a Γ fun d Γ1 => ∃ t, d = .bool t ∧ ψ (.bool (!t)) Γ1) : GE B X (.UnaryOp .Not a pos) Γ ψ := fun Hs σ H Q S g =>
  pe_of (pe_not pe_W) (h Hs σ H _ S fun d Γ1 v Hs1 H1 ⟨t, e, p⟩ s1 S1 q => by
    subst e
    cases q
    exact ⟨t, rfl, g _ Γ1 _ Hs1 H1 p s1 S1 (.bl _)⟩)
theorem ge_one {op : BoolOp} (h : GE B X a Γ ψ) : GE B X (.BoolOp op [a] pos) Γ ψ := fun Hs σ H Q S g => pe_of (pe_one pe_W) (h Hs σ H Q S g)
theorem ge_and (h : GE B X a Γ fun d Γ1 => ∃ t, d = .bool t ∧ if t = true then GE B X (.BoolOp .And (b :: rest) pos) Γ1 ψ else ψ (.bool false) Γ1) : GE B X (.BoolOp .And (a :: b :: rest) pos) Γ ψ := fun Hs σ H Q S g =>
  pe_of (pe_and pe_W pe_W) (h Hs σ H _ S fun d Γ1 v Hs1 H1 ⟨t, e, p⟩ s1 S1 q => by
    subst e
    cases q
    refine ⟨t, rfl, ?_⟩
    cases t with
    | false => exact iteF (g _ Γ1 _ Hs1 H1 p s1 S1 (.bl _))
    | true =>
      have p : GE B X (.BoolOp .And (b :: rest) pos) Γ1 ψ := p
      exact iteT (p Hs1 σ H1 Q S1 fun u Γ2 w Hs2 H2 q s2 S2 r => g u Γ2 w Hs2 H2 q (s1.trans s2) S2 r))
theorem ge_if (h : GT B X c Γ fun t Γ1 => if t = true then GE B X a Γ1 ψ else GE B X b Γ1 ψ) : GE B X (.IfExp c a b pos) Γ ψ := fun Hs σ H Q S g =>
  pe_of (pe_ifExp pt_W pe_W pe_W) (h Hs σ H _ S fun t Γ1 Hs1 H1 p s1 S1 => by
    cases t with
    | true =>
      have p : GE B X a Γ1 ψ := p
      exact iteT (p Hs1 σ H1 Q S1 fun u Γ2 w Hs2 H2 q s2 S2 r => g u Γ2 w Hs2 H2 q (s1.trans s2) S2 r)
    | false =>
      have p : GE B X b Γ1 ψ := p
      exact iteF (p Hs1 σ H1 Q S1 fun u Γ2 w Hs2 H2 q s2 S2 r => g u Γ2 w Hs2 H2 q (s1.trans s2) S2 r))
end
/-! ### places, parts -/
def atD (ds : List PyData) (i : Int) : Option PyData := (ixN ds.length i).bind fun j => ds[j]?
theorem at_dvs {H : Hp} {vs : List V} {ds : List PyData} {i : Int} {d : PyData} (h : DvAll H vs ds) (e : atD ds i = some d) : ∃ v, atI vs i = some v ∧ Dv H v d := by
  unfold atD at e
  unfold atI
  rw [h.len]
  cases q : ixN ds.length i with
  | none => rw [q] at e; cases e
  | some j =>
    rw [q] at e
    exact dvs_get h e
def IxD (d1 d2 : PyData) (k : PyData → Prop) : Prop := match d1, d2 with
  | .list ds, .int i => ∃ x, atD ds i = some x ∧ k x
  | .tuple ds, .int i => ∃ x, atD ds i = some x ∧ k x
  | .str z, .int i => z.length ≤ sizeLine ∧ ∃ c, atI z.cps.toList i = some c ∧ k (.str ⟨#[c]⟩)
  | _, _ => False
theorem ge_ix {a b : Expr} {φ : PyData → List Sl → Prop} (hs : PlainIx b) (h : GE B X a Γ fun d1 Γ1 => GE B X b Γ1 fun d2 Γ2 => IxD d1 d2 fun d => φ d Γ2) : GE B X (.Subscript a b pos) Γ φ := fun Hs σ H Q S g =>
  pe_of (pe_ix ix_seq pe_W pe_W hs) (h Hs σ H _ S fun d1 Γ1 v1 Hs1 H1 p s1 S1 q1 => p Hs1 σ H1 _ S1 fun d2 Γ2 v2 Hs2 H2 p2 s2 S2 q2 => by
    have q1 := q1.mono s2
    cases q2 with
    | int i =>
      cases q1 with
      | lst r a =>
        obtain ⟨x, e, kx⟩ := p2
        obtain ⟨v, ev, dv⟩ := at_dvs a e
        exact .inl ⟨_, _, i, v, rfl, rfl, rdL (rd_up S2.sub r), ev, g x Γ2 v Hs2 H2 kx (s1.trans s2) S2 dv⟩
      | tup r a =>
        obtain ⟨x, e, kx⟩ := p2
        obtain ⟨v, ev, dv⟩ := at_dvs a e
        exact .inr (.inl ⟨_, _, i, v, rfl, rfl, rdT (rd_up S2.sub r), ev, g x Γ2 v Hs2 H2 kx (s1.trans s2) S2 dv⟩)
      | str z =>
        obtain ⟨hz, c, e, kx⟩ := p2
        exact .inr (.inr ⟨z, i, c, rfl, rfl, hz, e, g _ Γ2 _ Hs2 H2 kx (s1.trans s2) S2 (.str _)⟩)
      | _ => exact p2.elim
    | _ => cases q1 <;> exact p2.elim)
/-- of a list of one's own -/
theorem ge_ixO (i : Nat) {x : Str} {p0 : Pos} {b : Expr} {ad : Addr} {ds : List PyData} {φ : PyData → List Sl → Prop} (hN : X.N[i]? = some x) (hΓ : Γ[i]? = some (.own ad ds)) (hv : Vis X.env.scope x) (hs : PlainIx b) (h : GE B X b Γ fun d2 Γ2 => ∃ es, Γ2[i]? = some (.own ad es) ∧ IxD (.list es) d2 fun d => φ d Γ2)
    (hd : (x == ("__debug__" : Str)) = false := by decide) (hcd : (x == ("__classdict__" : Str)) = false := by decide) : GE B X (.Subscript (.Name x p0) b pos) Γ φ := fun Hs σ H Q S g => by
  obtain ⟨e, _⟩ := S.lst hΓ
  refine pe_of (pe_ix ix_list (pe_var hN hv hd hcd) pe_W hs) ⟨_, e, h Hs σ H _ S fun d2 Γ2 v2 Hs2 H2 ⟨es, hΓ2, p2⟩ s2 S2 q2 => ?_⟩
  obtain ⟨_, _, _, vs, hv2, dv⟩ := S2.lst hΓ2
  cases q2 with
  | int j =>
    obtain ⟨x, ex, kx⟩ := p2
    obtain ⟨v, ev, dx⟩ := at_dvs dv ex
    exact ⟨ad, vs, j, v, rfl, rfl, .inl (.inl hv2), ev, g x Γ2 v Hs2 H2 kx s2 S2 dx⟩
  | _ => exact p2.elim
/-! ### length -/
def LenD (d : PyData) (k : Int → Prop) : Prop := match d with
  | .list ds => k ds.length
  | .tuple ds => k ds.length
  | .str z => z.length ≤ sizeLine ∧ k z.length
  | _ => False
theorem ge_len {x : Str} {p : Pos} {a : Expr} {φ : PyData → List Sl → Prop} (hx : x = "len") (hg : Gl X x) (hm : X.mg x = none) (h : GB B X a Γ fun d Γ1 => LenD d fun n => φ (.int n) Γ1)
    (he : starEach [a] X.env = (false, eval a X.env) :: starEach [] X.env := by rfl) : GE B X (.Call (.Name x p) [a] [] pos) Γ φ := by
  subst hx
  intro Hs σ H Q S g
  refine pe_of (pe_callB call_len hg hm (by decide +kernel) (pa_cons pe_W pa_nil he) (he := he)) (show teW X a σ H _ from h Hs σ H _ S fun d Γ1 v Hs1 H1 p s1 S1 q => ?_)
  show ∃ x n, [v] = [x] ∧ _
  cases q with
  | lst r a => exact ⟨_, _, rfl, .inl ⟨_, rdL r, rfl⟩, by rw [a.len]; exact g _ Γ1 _ Hs1 H1 p s1 S1 (.int _)⟩
  | tup r a => exact ⟨_, _, rfl, .inr ⟨_, rdT r, rfl⟩, by rw [a.len]; exact g _ Γ1 _ Hs1 H1 p s1 S1 (.int _)⟩
  | str z => exact ⟨_, _, rfl, ⟨p.1, rfl⟩, g _ Γ1 _ Hs1 H1 p.2 s1 S1 (.int _)⟩
  | _ => exact p.elim
end
end Px
/-! Statements, and defs. -/
namespace Px
open PySem PySem.Spec PyProof.Rows L2 Tc
/-- what is wanted behind a statement, of the data -/
structure DE where
  nx : List Sl → Prop
  rt : PyData → List Sl → Prop
  bk : List Sl → Prop := fun _ => False
  ct : List Sl → Prop := fun _ => False
structure Real (B : Bas) (D : Ends) (E : DE) (H0 : Hp) : Prop where
  nx : ∀ Γ Hs σ H, E.nx Γ → Same H0 Hs → Sx B Hs σ H Γ → D.nx σ H
  rt : ∀ d Γ v Hs σ H, E.rt d Γ → Same H0 Hs → Sx B Hs σ H Γ → Dv Hs v d → D.rt v H
  bk : ∀ Γ Hs σ H, E.bk Γ → Same H0 Hs → Sx B Hs σ H Γ → D.bk σ H
  ct : ∀ Γ Hs σ H, E.ct Γ → Same H0 Hs → Sx B Hs σ H Γ → D.ct σ H
theorem Real.up {B : Bas} {D : Ends} {E : DE} {H0 H1 : Hp} (R : Real B D E H0) (s : Same H0 H1) : Real B D E H1 := ⟨fun Γ Hs σ H p k S => R.nx Γ Hs σ H p (s.trans k) S, fun d Γ v Hs σ H p k S q => R.rt d Γ v Hs σ H p (s.trans k) S q, fun Γ Hs σ H p k S => R.bk Γ Hs σ H p (s.trans k) S, fun Γ Hs σ H p k S => R.ct Γ Hs σ H p (s.trans k) S⟩
/-- a def's body -/
structure Bod (X : Cx) (k : Nat) : Prop extends Cxt X k where
  nd : X.N.Nodup
  calm : X.calm = true
  po : PassesOwn (model X.prog X.w) X.A X.env X.xe
/-- what an error of one's own may find: its class, its value -/
def Exc (B : Bas) (X : Cx) (ψ : Addr → PyData → List Sl → Prop) : Prop := ∃ W : WX, Takes X W ∧ ∀ C d Γ v Hs σ H, ψ C d Γ → Sx B Hs σ H Γ → Dv Hs v d → ∀ dd, H dd = none → W (.ref C) (some dd) σ (upd H dd (.xd [("given", v)]))
theorem Exc.none {B : Bas} {X : Cx} : Exc B X (fun _ _ _ => False) := ⟨fun _ _ _ _ => False, takes0, fun _ _ _ _ _ _ _ h => h.elim⟩
theorem Exc.imp {B : Bas} {X : Cx} {ψ χ : Addr → PyData → List Sl → Prop} (h : Exc B X ψ) (i : ∀ C d Γ, χ C d Γ → ψ C d Γ) : Exc B X χ := by
  obtain ⟨W, t, h⟩ := h
  exact ⟨W, t, fun C d Γ v Hs σ H x => h C d Γ v Hs σ H (i C d Γ x)⟩
section
variable (B : Bas) (X : Cx)
def G1 (st : Stmt) (Γ : List Sl) (E : DE) : Prop := ∀ (D : Ends) (Hs : Hp) (σ : L2.St) (H : Hp), Real B D E Hs → Sx B Hs σ H Γ → tsW X st D σ H
def Gs (sts : List Stmt) (Γ : List Sl) (E : DE) : Prop := ∀ (D : Ends) (Hs : Hp) (σ : L2.St) (H : Hp), Real B D E Hs → Sx B Hs σ H Γ → tssW X sts D σ H
end
section
variable {B : Bas} {X : Cx} {Γ : List Sl} {E : DE} {pos : Pos} {k : Nat}
theorem gs_nil (h : E.nx Γ) : Gs B X [] Γ E := fun D Hs σ H R S => pss_of pss_nil (R.nx Γ Hs σ H h (Same.refl _) S)
theorem gs_cons {st : Stmt} {rest : List Stmt} (h : G1 B X st Γ { E with nx := fun Γ1 => Gs B X rest Γ1 E }) : Gs B X (st :: rest) Γ E := fun D Hs σ H R S =>
  pss_of (pss_cons ps_W pss_W) (h { D with nx := tssW X rest D } Hs σ H ⟨fun Γ1 Hs1 σ1 H1 p s S1 => p D Hs1 σ1 H1 (R.up s) S1, R.rt, R.bk, R.ct⟩ S)
theorem g1_expr {e : Expr} (h : GE B X e Γ fun _ Γ1 => E.nx Γ1) (hs : swapsWith e none pos.line X.env = pure false := by rfl) : G1 B X (.Expr e pos) Γ E := fun D Hs σ H R S =>
  ps_of (ps_expr pe_W hs) (h Hs σ H _ S fun d Γ1 v Hs1 H1 p s S1 _ => R.nx Γ1 Hs1 σ H1 p s S1)
theorem g1_ret {e : Expr} (h : GE B X e Γ fun d Γ1 => E.rt d Γ1) : G1 B X (.Return (some e) pos) Γ E := fun D Hs σ H R S =>
  ps_of (ps_ret pe_W) (h Hs σ H _ S fun d Γ1 v Hs1 H1 p s S1 q => R.rt d Γ1 v Hs1 σ H1 p s S1 q)
theorem g1_if {c : Expr} {a b : List Stmt} (h : GT B X c Γ fun t Γ1 => if t = true then Gs B X a Γ1 E else Gs B X b Γ1 E) : G1 B X (.If c a b pos) Γ E := fun D Hs σ H R S =>
  ps_of (ps_if pt_W pss_W pss_W) (h Hs σ H _ S fun t Γ1 Hs1 H1 p s S1 => by
    cases t with
    | true =>
      have p : Gs B X a Γ1 E := p
      exact iteT (p D Hs1 σ H1 (R.up s) S1)
    | false =>
      have p : Gs B X b Γ1 E := p
      exact iteF (p D Hs1 σ H1 (R.up s) S1))
theorem g1_set (c : Bod X k) (i : Nat) {x : Str} {e : Expr} {pos' : Pos} (hi : X.N[i]? = some x) (hx : Loc X.env.scope x) (h : GE B X e Γ fun d Γ1 => i < Γ1.length ∧ E.nx (Γ1.set i (.d d)))
    (hs : swapsWith e (some (.Name x pos')) pos.line X.env = pure false := by rfl) (hf : X.fn x = true ∨ X.env.scope.names.lookup x = some .local := by first | exact .inl rfl | exact .inr rfl | assumption) : G1 B X (.Assign [.Name x pos'] e pos) Γ E := fun D Hs σ H R S =>
  ps_of (ps_set c.nd hi hx pe_W hs hf) (h Hs σ H _ S fun d Γ1 v Hs1 H1 ⟨l, p⟩ s S1 q => R.nx _ Hs1 _ H1 p s (S1.putD l q))
/-- a new list, to be changed -/
theorem g1_setL (c : Bod X k) (i : Nat) {x : Str} {e : Expr} {pos' : Pos} (hi : X.N[i]? = some x) (hx : Loc X.env.scope x) (h : GF B X e Γ fun ds Γ1 => i < Γ1.length ∧ ∀ a, Alone Γ1 a → E.nx (Γ1.set i (.own a ds)))
    (hs : swapsWith e (some (.Name x pos')) pos.line X.env = pure false := by rfl) (hf : X.fn x = true ∨ X.env.scope.names.lookup x = some .local := by first | exact .inl rfl | exact .inr rfl | assumption) : G1 B X (.Assign [.Name x pos'] e pos) Γ E := fun D Hs σ H R S =>
  ps_of (ps_set c.nd hi hx pe_W hs hf) (h Hs σ H _ S fun ds Γ1 a vs Hs1 H1 ⟨l, p⟩ s S1 f n al ha q => R.nx _ Hs1 _ H1 (p a al) s (S1.putL l f n ha q al))
end
/-! ### targets -/
section
variable (X : Cx)
@[irreducible] def tgW (t : Expr) : TG := fun v σ H Q => ∀ (pins : List (Addr × Obj)) (s : Shared) (u : Value), Inv X pins σ H s → RelV v u → wpAny (model X.prog X.w) X.A (assign t X.env u) (fun _ s' => ∃ σ' H', Inv X pins σ' H' s' ∧ Q σ' H') X.xe s
variable {X}
theorem tgI {t : Expr} {v : V} {σ : L2.St} {H : Hp} {Q : L2.St → Hp → Prop} (h : ∀ (pins : List (Addr × Obj)) (s : Shared) (u : Value), Inv X pins σ H s → RelV v u → wpAny (model X.prog X.w) X.A (assign t X.env u) (fun _ s' => ∃ σ' H', Inv X pins σ' H' s' ∧ Q σ' H') X.xe s) : tgW X t v σ H Q := by unfold tgW; exact h
theorem tgE {t : Expr} {v : V} {σ : L2.St} {H : Hp} {Q : L2.St → Hp → Prop} (h : tgW X t v σ H Q) : ∀ (pins : List (Addr × Obj)) (s : Shared) (u : Value), Inv X pins σ H s → RelV v u → wpAny (model X.prog X.w) X.A (assign t X.env u) (fun _ s' => ∃ σ' H', Inv X pins σ' H' s' ∧ Q σ' H') X.xe s := by unfold tgW at h; exact h
theorem pg_W {t : Expr} : PG X t (tgW X t) := ⟨fun pins s _ _ _ u _ I r h => tgE h pins s u I r⟩
theorem pg_of {t : Expr} {g : TG} (p : PG X t g) {v : V} {σ : L2.St} {H : Hp} {Q : L2.St → Hp → Prop} (h : g v σ H Q) : tgW X t v σ H Q := tgI fun pins s u I r => p.run pins s σ H v u Q I r h
end
/-- data are given to a target -/
def GG (B : Bas) (X : Cx) (t : Expr) (d : PyData) (Γ : List Sl) (φ : List Sl → Prop) : Prop := ∀ (Hs : Hp) (σ : L2.St) (H : Hp) (v : V) (Q : L2.St → Hp → Prop), Sx B Hs σ H Γ → Dv Hs v d → (∀ Γ' Hs' σ' H', φ Γ' → Same Hs Hs' → Sx B Hs' σ' H' Γ' → Q σ' H') → tgW X t v σ H Q
/-- several -/
def GGs (B : Bas) (X : Cx) (ts : List Expr) (ds : List PyData) (Γ : List Sl) (φ : List Sl → Prop) : Prop := ∃ g, PGs X ts g ∧ ∀ (Hs : Hp) (σ : L2.St) (H : Hp) (vs : List V) (Q : L2.St → Hp → Prop), Sx B Hs σ H Γ → DvAll Hs vs ds → (∀ Γ' Hs' σ' H', φ Γ' → Same Hs Hs' → Sx B Hs' σ' H' Γ' → Q σ' H') → g vs σ H Q
section
variable {B : Bas} {X : Cx} {Γ : List Sl} {E : DE} {pos : Pos} {k : Nat}
theorem gg_name (nd : X.N.Nodup) (i : Nat) {x : Str} {d : PyData} {φ : List Sl → Prop} (hi : X.N[i]? = some x) (hx : Loc X.env.scope x) (h : i < Γ.length ∧ φ (Γ.set i (.d d))) (hf : X.fn x = true ∨ X.env.scope.names.lookup x = some .local := by first | exact .inl rfl | exact .inr rfl | assumption) : GG B X (.Name x pos) d Γ φ := fun Hs σ H v Q S q g =>
  pg_of (pg_name (i := i) nd hi hx hf) (g _ Hs _ H h.2 (Same.refl _) (S.putD h.1 q))
theorem ggs_nil {φ : List Sl → Prop} (h : φ Γ) : GGs B X [] [] Γ φ := ⟨gNil, pgs_nil, fun Hs σ H vs Q S q g => ⟨dvs_nil q, g Γ Hs σ H h (Same.refl _) S⟩⟩
theorem ggs_cons {t : Expr} {ts : List Expr} {d : PyData} {ds : List PyData} {φ : List Sl → Prop} (M : List Sl) (h : GG B X t d Γ (· = M)) (h2 : GGs B X ts ds M φ)
    (hs : (assignEach (t :: ts) X.env).map (·.2) = assign t X.env :: (assignEach ts X.env).map (·.2) := by rfl) : GGs B X (t :: ts) (d :: ds) Γ φ := by
  obtain ⟨u, q, h2⟩ := h2
  refine ⟨gCons (tgW X t) u, pgs_cons pg_W q hs, fun Hs σ H vs Q S dv k => ?_⟩
  cases dv with
  | cons a r => exact ⟨_, _, rfl, h Hs σ H _ _ S a fun Γ1 Hs1 σ1 H1 e s S1 => by
      subst e
      exact h2 Hs1 σ1 H1 _ Q S1 (r.mono s) fun Γ2 Hs2 σ2 H2 p2 s2 S2 => k Γ2 Hs2 σ2 H2 p2 (s.trans s2) S2⟩
theorem gg_tup (calm : X.calm = true) {ts : List Expr} {n1 : Nat} {ds : List PyData} {φ : List Sl → Prop} (h : GGs B X ts ds Γ φ) {n : Nat} (hn : (assignEach ts X.env).length = n := by rfl) (hl : ds.length = n := by rfl) (hst : (assignEach ts X.env).findIdx? (·.1) = none := by rfl) : GG B X (.Tuple ts n1 pos) (.tuple ds) Γ φ := fun Hs σ H v Q S q k => by
  obtain ⟨g, p, h⟩ := h
  refine pg_of (pg_tup calm p hn hst) ?_
  cases q with
  | tup r a => exact ⟨_, _, rfl, rdT (rd_up S.sub r), a.len.trans hl, h Hs σ H _ Q S a k⟩
theorem g1_asg {t e : Expr} (h : GE B X e Γ fun d Γ1 => GG B X t d Γ1 E.nx) (hs : swapsWithSole [t] e pos.line X.env = pure false := by rfl) (hw : swappedStores [t] e X.env = pure none := by rfl)
    (h1 : (assignEach [t] X.env).map (·.2) = [assign t X.env] := by rfl) : G1 B X (.Assign [t] e pos) Γ E := fun D Hs σ H R S =>
  ps_of (ps_asg pe_W pg_W hs hw h1) (h Hs σ H _ S fun d Γ1 v Hs1 H1 p s S1 q => p Hs1 σ H1 v D.nx S1 q fun Γ2 Hs2 σ2 H2 n s2 S2 => R.nx Γ2 Hs2 σ2 H2 n (s.trans s2) S2)
/-- a list of one's own is changed at a place -/
theorem g1_put (i : Nat) {x : Str} {e j : Expr} {p0 ps : Pos} {ad : Addr} (hN : X.N[i]? = some x) (hv : Vis X.env.scope x)
    (h : GE B X e Γ fun d Γ1 => (∃ ds, Γ1[i]? = some (.own ad ds)) ∧ GE B X j Γ1 fun dj Γ2 => ∃ ds m, Γ2[i]? = some (.own ad ds) ∧ ∃ n, dj = .int n ∧ ixN ds.length n = some m ∧ E.nx (Γ2.set i (.own ad (ds.set m d))))
    (hd : (x == ("__debug__" : Str)) = false := by decide) (hcd : (x == ("__classdict__" : Str)) = false := by decide)
    (ha : ∀ v, assign (.Subscript (.Name x p0) j ps) X.env v = (do
      let ov ← holding [v] (eval (.Name x p0) X.env)
      let iv ← holding [v, ov] (eval j X.env)
      standAt ps
      holding [v, ov, iv] (setItem ov iv v)
      release [v, ov, iv] []) := by intro _; rfl)
    (hs : swapsWithSole [.Subscript (.Name x p0) j ps] e pos.line X.env = pure false := by rfl) (hw : swappedStores [.Subscript (.Name x p0) j ps] e X.env = pure none := by rfl)
    (h1 : (assignEach [.Subscript (.Name x p0) j ps] X.env).map (·.2) = [assign (.Subscript (.Name x p0) j ps) X.env] := by rfl) : G1 B X (.Assign [.Subscript (.Name x p0) j ps] e pos) Γ E := fun D Hs σ H R S =>
  ps_of (ps_asg pe_W (pg_sub (pe_var hN hv hd hcd) pe_W set_list ha) hs hw h1) (h Hs σ H _ S fun d Γ1 v Hs1 H1 ⟨⟨ds1, g1⟩, p⟩ s S1 q => by
    obtain ⟨e1, _⟩ := S1.lst g1
    refine ⟨_, e1, p Hs1 σ H1 _ S1 fun dj Γ2 vj Hs2 H2 ⟨ds, m, g2, n, ej, ix, nx⟩ s2 S2 qj => ?_⟩
    subst ej
    cases qj
    obtain ⟨_, _, _, vs, hv2, dv⟩ := S2.lst g2
    exact ⟨ad, vs, n, m, rfl, rfl, hv2, by rw [dv.len]; exact ix, R.nx _ Hs2 σ _ nx (s.trans s2) (S2.upd g2 (dvs_set m dv (q.mono s2)))⟩)
end
end Px
/-! Loops and comprehensions. -/
namespace Px
open PySem PySem.Spec PyProof.Rows L2 Tc
section
variable (X : Cx) (tg : Expr)
@[irreducible] def tiW (iter : Expr) : TI := fun σ H R => ∀ (pins : List (Addr × Obj)) (s : Shared), Inv X pins σ H s → wpAny (model X.prog X.w) X.A (eval iter X.env) (fun v s1 => wpAny (model X.prog X.w) X.A (pyIter v) (PIE X pins σ tg R) X.xe s1) X.xe s
variable {X tg}
theorem tiI {iter : Expr} {σ : L2.St} {H : Hp} {R : It → Hp → Prop} (h : ∀ (pins : List (Addr × Obj)) (s : Shared), Inv X pins σ H s → wpAny (model X.prog X.w) X.A (eval iter X.env) (fun v s1 => wpAny (model X.prog X.w) X.A (pyIter v) (PIE X pins σ tg R) X.xe s1) X.xe s) : tiW X tg iter σ H R := by unfold tiW; exact h
theorem tiE {iter : Expr} {σ : L2.St} {H : Hp} {R : It → Hp → Prop} (h : tiW X tg iter σ H R) : ∀ (pins : List (Addr × Obj)) (s : Shared), Inv X pins σ H s → wpAny (model X.prog X.w) X.A (eval iter X.env) (fun v s1 => wpAny (model X.prog X.w) X.A (pyIter v) (PIE X pins σ tg R) X.xe s1) X.xe s := by unfold tiW at h; exact h
theorem pi_W {iter : Expr} : PI X tg iter (tiW X tg iter) := ⟨fun pins s _ _ _ I h => tiE h pins s I⟩
theorem pi_of {iter : Expr} {wi : TI} (p : PI X tg iter wi) {σ : L2.St} {H : Hp} {R : It → Hp → Prop} (h : wi σ H R) : tiW X tg iter σ H R := tiI fun pins s I => p.run pins s σ H R I h
end
/-- n items, f i the i-th of them, while the slots keep what is asked -/
def Its (keep : List Sl → Prop) (Hs1 : Hp) (J : It) (n : Nat) (f : Nat → PyData) : Prop := ∃ (G : Hp → Prop) (Y : Nat → Hp → V → Hp → Prop), Walk J n G Y ∧
  (∀ B Hs σ H Γ, keep Γ → Same Hs1 Hs → Sx B Hs σ H Γ → G H) ∧ ∀ B i Hs σ H Γ x H', i < n → keep Γ → Same Hs1 Hs → Sx B Hs σ H Γ → Y i H x H' → ∃ Hs', Same Hs Hs' ∧ Sx B Hs' σ H' Γ ∧ Dv Hs' x (f i)
def GI (B : Bas) (X : Cx) (tg iter : Expr) (Γ : List Sl) (φ : Nat → (Nat → PyData) → (List Sl → Prop) → List Sl → Prop) : Prop := ∀ (Hs : Hp) (σ : L2.St) (H : Hp) (R : It → Hp → Prop), Sx B Hs σ H Γ →
  (∀ n f keep Γ1 J Hs1 H1, φ n f keep Γ1 → Same Hs Hs1 → Sx B Hs1 σ H1 Γ1 → Its keep Hs1 J n f → R J H1) → tiW X tg iter σ H R
abbrev nth (ds : List PyData) : Nat → PyData := fun i => ds.getD i .none
theorem nth_at {ds : List PyData} {i : Nat} {d : PyData} (h : ds[i]? = some d) : nth ds i = d := by
  show ds.getD i .none = d
  rw [List.getD_eq_getElem?_getD, h] <;> rfl
section
variable {X : Cx} {tg : Expr}
def iSeq (K : PySem.W.Frag) (tl : TE) : TI := fun σ H R => tl σ H fun x H1 => (∃ a, x = .ref a ∧ (∃ xs, SqL K H1 a xs) ∧ R (Itl K a) H1) ∨ ∃ a, x = .ref a ∧ (∃ xs, SqT K H1 a xs) ∧ R (Itt K a) H1
theorem pi_seq {l : Expr} {tl : TE} (hl : PE X l tl) : PI X tg l (iSeq X.K tl) := by
  refine ⟨fun pins s σ H R I h => ?_⟩
  refine thn (hl.run pins s σ H _ I h) fun v s1 ⟨x, H1, I1, r1, q1⟩ => ?_
  rcases q1 with ⟨a, e, ⟨xs, hq⟩, q⟩ | ⟨a, e, ⟨xs, hq⟩, q⟩
  · subst e
    cases r1
    obtain ⟨its, rv, p, hz⟩ := I1.list hq
    refine wpAny_pyIter_list p.isList ?_
    refine ⟨s1.heap.objs.size, [s1.heap.objs.size], _, _, H1, rfl, I1.kept (t' := s1.toks) fun b o e => Heap.get?_push_of_some _ e, turn_list a _, ⟨_, Heap.get?_push_size _ rfl, rfl, rfl⟩, fun b hb => ?_, q⟩
    have e : b = s1.heap.objs.size := by simpa using hb
    subst e
    exact I1.fpOk (Nat.le_refl _) (I1.hok.fresh (Nat.le_refl _))
  · subst e
    cases r1
    obtain ⟨its, rv, p, hz⟩ := I1.tuple hq
    refine wpAny_pyIter_tuple (show s1.heap.IsTuple a its.toArray from p) ?_
    refine ⟨s1.heap.objs.size, [s1.heap.objs.size], _, _, H1, rfl, I1.kept (t' := s1.toks) fun b o e => Heap.get?_push_of_some _ e, turn_tuple a _, ⟨_, Heap.get?_push_size _ rfl, rfl, rfl⟩, fun b hb => ?_, q⟩
    have e : b = s1.heap.objs.size := by simpa using hb
    subst e
    exact I1.fpOk (Nat.le_refl _) (I1.hok.fresh (Nat.le_refl _))
end
section
variable {B : Bas} {X : Cx} {Γ : List Sl} {E : DE} {pos : Pos} {k : Nat} {tg : Expr}
/-- what a walk over a sequence is over -/
def SeqD (d : PyData) (k : List PyData → Prop) : Prop := match d with
  | .list ds => k ds
  | .tuple ds => k ds
  | _ => False
theorem its_at {ks : Bool} {Hs : Hp} {a : Addr} {vs : List V} {ds : List PyData} {K : PySem.W.Frag} (r : if ks = true then Rd Hs a (.lst vs) else Rd Hs a (.tup vs)) (d : DvAll Hs vs ds) : Its (fun _ => True) Hs (if ks = true then Itl K a else Itt K a) ds.length (nth ds) := by
  have y : ∀ B i Hs2 σ H Γ x H', Same Hs Hs2 → Sx B Hs2 σ H Γ → YAt vs i H x H' → ∃ Hs', Same Hs2 Hs' ∧ Sx B Hs' σ H' Γ ∧ Dv Hs' x (nth ds i) := by
    rintro B i Hs2 σ H Γ x _ s2 S ⟨rfl, e⟩
    obtain ⟨d', e', dv⟩ := dvs_get' d e
    rw [nth_at e']
    exact ⟨Hs2, Same.refl _, S, dv.mono s2⟩
  cases ks with
  | true =>
    refine ⟨_, _, d.len ▸ walk_list (K := K) (a := a) (xs := vs), fun B Hs2 σ H Γ _ s2 S => rdL (rd_up S.sub (rd_up s2 r)), fun B i Hs2 σ H Γ x H' _ _ s2 S h => y B i Hs2 σ H Γ x H' s2 S h⟩
  | false =>
    refine ⟨_, _, d.len ▸ walk_tup (K := K) (a := a) (xs := vs), fun B Hs2 σ H Γ _ s2 S => rdT (rd_up S.sub (rd_up s2 r)), fun B i Hs2 σ H Γ x H' _ _ s2 S h => y B i Hs2 σ H Γ x H' s2 S h⟩
theorem gi_seq {e : Expr} {φ : Nat → (Nat → PyData) → (List Sl → Prop) → List Sl → Prop} (h : GE B X e Γ fun d Γ1 => SeqD d fun ds => φ ds.length (nth ds) (fun _ => True) Γ1) : GI B X tg e Γ φ := fun Hs σ H R S g =>
  pi_of (pi_seq pe_W) (show teW X e σ H _ from h Hs σ H _ S fun d Γ1 v Hs1 H1 p s S1 q => by
    cases q with
    | lst r a => exact .inl ⟨_, rfl, ⟨_, rdL (rd_up S1.sub r)⟩, g _ _ _ Γ1 _ Hs1 H1 p s S1 (its_at (ks := true) r a)⟩
    | tup r a => exact .inr ⟨_, rfl, ⟨_, rdT (rd_up S1.sub r)⟩, g _ _ _ Γ1 _ Hs1 H1 p s S1 (its_at (ks := false) r a)⟩
    | _ => exact p.elim)
/-! ### ranges -/
theorem its_rg {lo : Int} {n : Nat} {Hs : Hp} : Its (fun _ => True) Hs (Itr lo n) n (fun i => .int (lo + i)) := ⟨_, _, walk_range, fun _ _ _ _ _ _ _ _ => trivial, by
  rintro B i Hs2 σ H Γ x _ _ _ s2 S ⟨rfl, rfl⟩
  exact ⟨Hs2, Same.refl _, S, .int _⟩⟩
theorem its_rgC {lo c : Int} {n : Nat} {Hs : Hp} : Its (fun _ => True) Hs (Itc lo c n) n (fun i => .int (lo + (i : Nat) * c)) := ⟨_, _, walk_rangeC, fun _ _ _ _ _ _ _ _ => trivial, by
  rintro B i Hs2 σ H Γ x _ _ _ s2 S ⟨rfl, rfl⟩
  exact ⟨Hs2, Same.refl _, S, .int _⟩⟩
section
variable {p : Pos} {a b c : Expr} {φ : Nat → (Nat → PyData) → (List Sl → Prop) → List Sl → Prop}
theorem gi_rg1 {x : Str} (hx : x = "range") (hg : Gl X x) (hm : X.mg x = none) (h : GA B X [a] Γ fun ds Γ1 => ∃ j : Int, ds = [.int j] ∧ -(2 ^ 62) ≤ j ∧ j < 2 ^ 62 ∧ φ j.toNat (fun i => .int (0 + (i : Int))) (fun _ => True) Γ1) (hs : starEach [a] X.env = [(false, eval a X.env)] := by rfl) : GI B X tg (.Call (.Name x p) [a] [] pos) Γ φ := by
  subst hx
  exact fun Hs σ H R S g => pi_of (pi_range1 hg hm pa_W hs) (h Hs σ H _ S fun ds Γ1 vs Hs1 H1 ⟨j, e, l1, l2, q⟩ s S1 dv => by
    subst e
    have ev := dvs_ints (ns := [j]) dv
    exact ⟨j, ev, l1, l2, g _ _ _ Γ1 _ Hs1 H1 q s S1 its_rg⟩)
theorem gi_rg3 {x : Str} (hx : x = "range") (hg : Gl X x) (hm : X.mg x = none) (h : GA B X [a, b, c] Γ fun ds Γ1 => ∃ (i j d : Int) (n : Nat), ds = [.int i, .int j, .int d] ∧ RgC i j d n ∧ φ n (fun t => .int (i + (t : Nat) * d)) (fun _ => True) Γ1)
    (hs : starEach [a, b, c] X.env = (false, eval a X.env) :: starEach [b, c] X.env := by rfl) (hpl : (backTo pos (starEach [b, c] X.env)).any (·.1) = false := by rfl) : GI B X tg (.Call (.Name x p) [a, b, c] [] pos) Γ φ := by
  subst hx
  exact fun Hs σ H R S g => pi_of (pi_range3 hg hm pa_W hs hpl) (h Hs σ H _ S fun ds Γ1 vs Hs1 H1 ⟨i, j, d, n, e, l, q⟩ s S1 dv => by
    subst e
    have ev := dvs_ints (ns := [i, j, d]) dv
    exact ⟨i, j, d, n, ev, l, g _ _ _ Γ1 _ Hs1 H1 q s S1 its_rgC⟩)
end
/-! ### for -/
theorem g1_for (c : Bod X k) {t iter : Expr} {body : List Stmt} (h : GI B X t iter Γ fun n f keep Γ1 => ∃ I : Nat → List Sl → Prop, I 0 Γ1 ∧ (∀ i Γ, i ≤ n → I i Γ → keep Γ) ∧
      (∀ i Γ, i < n → I i Γ → GG B X t (f i) Γ fun Γ' => Gs B X body Γ' { E with nx := I (i + 1), ct := I (i + 1), bk := E.nx }) ∧ ∀ Γ, I n Γ → E.nx Γ)
    (hs : ∀ x, foldedSetIterable iter X.env x = pure x := by intro _; rfl) : G1 B X (.For t iter body [] pos) Γ E := fun D Hs σ H R S =>
  ps_of (ps_for c.po c.calm pi_W pg_W pss_W hs) (h Hs σ H _ S fun n f keep Γ1 J Hs1 H1 ⟨I, i0, ik, step, done⟩ s S1 ⟨G, Y, w, wg, wy⟩ => by
    refine for_it w (fun i σ' H' => ∃ Γ' Hs', I i Γ' ∧ Same Hs1 Hs' ∧ Sx B Hs' σ' H' Γ') ⟨Γ1, Hs1, i0, Same.refl _, S1⟩ ?_ ?_ ?_
    · rintro i σ' H' hi ⟨Γ', Hs', p, s', S'⟩
      exact wg B Hs' σ' H' Γ' (ik i Γ' hi p) s' S'
    · rintro i x σ' H' H'' hi ⟨Γ', Hs', p, s', S'⟩ y
      obtain ⟨Hs2, s2, S2, dv⟩ := wy B i Hs' σ' H' Γ' x H'' hi (ik i Γ' (Nat.le_of_lt hi) p) s' S' y
      refine step i Γ' hi p Hs2 σ' H'' x _ S2 dv fun Γ3 Hs3 σ3 H3 body s3 S3 => ?_
      have s13 : Same Hs1 Hs3 := s'.trans (s2.trans s3)
      refine body { D with nx := fun σ' H' => ∃ Γ' Hs', I (i + 1) Γ' ∧ Same Hs1 Hs' ∧ Sx B Hs' σ' H' Γ', ct := fun σ' H' => ∃ Γ' Hs', I (i + 1) Γ' ∧ Same Hs1 Hs' ∧ Sx B Hs' σ' H' Γ', bk := D.nx } Hs3 σ3 H3 ⟨fun Γ4 Hs4 σ4 H4 p4 s4 S4 => ⟨Γ4, Hs4, p4, s13.trans s4, S4⟩, fun d Γ4 v Hs4 σ4 H4 p4 s4 S4 q4 => R.rt d Γ4 v Hs4 σ4 H4 p4 (s.trans (s13.trans s4)) S4 q4, fun Γ4 Hs4 σ4 H4 p4 s4 S4 => R.nx Γ4 Hs4 σ4 H4 p4 (s.trans (s13.trans s4)) S4, fun Γ4 Hs4 σ4 H4 p4 s4 S4 => ⟨Γ4, Hs4, p4, s13.trans s4, S4⟩⟩ S3
    · rintro σ' H' ⟨Γ', Hs', p, s', S'⟩
      exact R.nx Γ' Hs' σ' H' (done Γ' p) (s.trans s') S')
end
/-! ### comprehensions -/
def clr (Γ : List Sl) : List Nat → List Sl
  | [] => Γ
  | v :: vs => (clr Γ vs).set v .no
theorem clr_len (Γ : List Sl) : ∀ vs, (clr Γ vs).length = Γ.length
  | [] => rfl
  | v :: vs => by
    show ((clr Γ vs).set v .no).length = _
    rw [List.length_set, clr_len Γ vs]
theorem clr_in {Γ : List Sl} {j : Nat} {s : Sl} : ∀ {vs : List Nat}, j ∈ vs → (clr Γ vs)[j]? = some s → s = .no
  | v :: vs, h, e => by
    rcases get_set (show ((clr Γ vs).set v .no)[j]? = some s from e) with ⟨_, z⟩ | ⟨n, e⟩
    · exact z
    · rcases List.mem_cons.mp h with z | z
      · exact absurd z n
      · exact clr_in z e
theorem clr_out {Γ : List Sl} {j : Nat} : ∀ {vs : List Nat}, j ∉ vs → (clr Γ vs)[j]? = Γ[j]?
  | [], _ => rfl
  | v :: vs, h => by
    show ((clr Γ vs).set v .no)[j]? = _
    rw [List.getElem?_set_ne fun z => h (by rw [z]; exact .head _)]
    exact clr_out fun z => h (.tail _ z)
theorem clr_some {Γ : List Sl} {j : Nat} {s : Sl} {vs : List Nat} (h : (clr Γ vs)[j]? = some s) (n : s ≠ .no) : j ∉ vs ∧ Γ[j]? = some s := by
  by_cases z : j ∈ vs
  · exact absurd (clr_in z h) n
  · exact ⟨z, (clr_out z).symm.trans h⟩
theorem wipe_there {σ : L2.St} {j : Nat} : ∀ {vs : List Nat}, j ∈ vs → j < σ.length → (wipe σ vs)[j]? = some none
  | v :: vs, h, l => by
    show ((wipe σ vs).set v none)[j]? = _
    by_cases e : v = j
    · subst e
      exact List.getElem?_set_self (by rw [wipe_length]; exact l)
    · rw [List.getElem?_set_ne e]
      rcases List.mem_cons.mp h with z | z
      · exact absurd z.symm e
      · exact wipe_there z l
theorem wipe_eq {σ σ' : L2.St} {vs : List Nat} (hl : σ.length = σ'.length) (h : ∀ j, j ∉ vs → σ[j]? = σ'[j]?) : wipe σ vs = wipe σ' vs := by
  refine List.ext_getElem? fun j => ?_
  by_cases e : j ∈ vs
  · by_cases l : j < σ.length
    · rw [wipe_there e l, wipe_there e (hl ▸ l)]
    · rw [List.getElem?_eq_none (by rw [wipe_length]; omega), List.getElem?_eq_none (by rw [wipe_length]; omega)]
  · rw [wipe_out e, wipe_out e]
    exact h j e
theorem wipe_same {σ σ' : L2.St} {vs : List Nat} (h : wipe σ vs = wipe σ' vs) : σ.length = σ'.length ∧ ∀ j, j ∉ vs → σ[j]? = σ'[j]? := by
  refine ⟨by rw [← wipe_length σ vs, h, wipe_length], fun j e => ?_⟩
  rw [← wipe_out (σ := σ) e, h, wipe_out e]
section
variable {B : Bas} {Hs : Hp} {σ σ2 : L2.St} {H : Hp} {Γ : List Sl} {vs : List Nat}
theorem Sx.clr (S : Sx B Hs σ H Γ) (h : σ2.length = σ.length) (e : ∀ j, j ∉ vs → σ2[j]? = σ[j]?) : Sx B Hs σ2 H (Px.clr Γ vs) := by
  refine ⟨S.fr, S.gr, S.sub, by rw [h, clr_len]; exact S.len, fun i s hs => ?_, fun i j a ds b es h1 h2 n => ?_, S.tb⟩
  · by_cases z : i ∈ vs
    · rw [clr_in z hs]
      exact trivial
    · rw [e i z]
      exact S.sl i s ((clr_out z).symm.trans hs)
  · exact S.ap i j a ds b es (clr_some h1 fun z => nomatch z).2 (clr_some h2 fun z => nomatch z).2 n
/-- a thing beside the slots is changed -/
theorem Sx.beside (S : Sx B Hs σ H Γ) {D : Addr} {o : HO} {u0 : HO} (hu : H D = some u0) (nu : noTb u0 = true) (n : Hs D = none) (f : B.fr D = none) (al : Alone Γ D) : Sx B Hs σ (L2.upd H D o) Γ := by
  refine ⟨fun b u e => ?_, S.gr, fun b u e => ?_, S.len, fun i s h => (S.sl i s h).mono (Same.refl _) fun a ds e => ?_, S.ap, tabs_updT S.tb hu nu⟩
  · have : b ≠ D := fun z => by rw [z, f] at e; cases e
    exact (upd_ne this).trans (S.fr b u e)
  · have : b ≠ D := fun z => by rw [z, n] at e; cases e
    exact (upd_ne this).trans (S.sub b u e)
  · subst e
    obtain ⟨_, _, m, _⟩ := S.lst h
    exact ⟨m, upd_ne (al i a ds h)⟩
/-- what stands at D is held, too -/
theorem Sx.hold (S : Sx B Hs σ H Γ) {D : Addr} {u : HO} (hD : H D = some u) (n : Hs D = none) (f : B.fr D = none) (al : Alone Γ D) : Sx ⟨L2.upd B.fr D u, Hs, B.T⟩ Hs σ H Γ := by
  refine ⟨fun b o e => ?_, Grow.refl _ _, S.sub, S.len, fun i s h => ?_, S.ap, S.tb⟩
  · by_cases z : b = D
    · subst z
      have e : L2.upd B.fr b u b = some o := e
      rw [upd_same] at e
      rw [hD]
      exact e
    · have e : L2.upd B.fr D u b = some o := e
      rw [upd_ne z] at e
      exact S.fr b o e
  · have q := S.sl i s h
    cases s with
    | own a ds =>
      obtain ⟨q1, q2, q3⟩ := q
      exact ⟨q1, (upd_ne (al i a ds h)).trans q2, q3⟩
    | _ => exact q
theorem Sx.loose {F : Hp} {hs0 Hs0 : Hp} {T0 : List (Addr × Str)} {D : Addr} {u : HO} (S : Sx ⟨L2.upd F D u, Hs0, T0⟩ Hs σ H Γ) (g : Grow F hs0 Hs0) (f : F D = none) (n : Hs0 D = none) : Sx ⟨F, hs0, T0⟩ Hs σ H Γ ∧ H D = some u ∧ Hs D = none ∧ Alone Γ D := by
  have up : ∀ b, F b ≠ none → L2.upd F D u b ≠ none := fun b hb => by
    by_cases z : b = D
    · rw [z, upd_same]
      exact fun z => nomatch z
    · rw [upd_ne z]
      exact hb
  refine ⟨⟨fun b o e => S.fr b o ?_, g.trans (S.gr.mono up), S.sub, S.len, fun i s h => ?_, S.ap, S.tb⟩, S.fr D u upd_same, S.gr.off D n (by show L2.upd F D u D ≠ none; rw [upd_same]; exact fun z => nomatch z), fun i b es h z => ?_⟩
  · have : b ≠ D := fun z => by
      have e : F b = some o := e
      rw [z, f] at e
      cases e
    exact (upd_ne this).trans e
  · have q := S.sl i s h
    cases s with
    | own a ds =>
      obtain ⟨q1, q2, q3⟩ := q
      have q2 : L2.upd F D u a = none := q2
      have : a ≠ D := fun z => by rw [z, upd_same] at q2; cases q2
      exact ⟨q1, (upd_ne this).symm.trans q2, q3⟩
    | _ => exact q
  · obtain ⟨_, q2, _⟩ := S.lst h
    have q2 : L2.upd F D u b = none := q2
    rw [z, upd_same] at q2
    cases q2
end
/-- data are given to a comprehension's target -/
def GC (B : Bas) (X : Cx) (vs : List Nat) (t : Expr) (d : PyData) (Γ : List Sl) (φ : List Sl → Prop) : Prop := ∀ (Hs : Hp) (σ : L2.St) (H : Hp) (v : V) (Q : L2.St → Hp → Prop), Sx B Hs σ H Γ → Dv Hs v d → (∀ Γ' Hs' σ' H', φ Γ' → Same Hs Hs' → Sx B Hs' σ' H' Γ' → wipe σ' vs = wipe σ vs → Q σ' H') → tgW X t v σ H Q
def GCs (B : Bas) (X : Cx) (vs : List Nat) (ts : List Expr) (ds : List PyData) (Γ : List Sl) (φ : List Sl → Prop) : Prop := ∃ g, PGs X ts g ∧ ∀ (Hs : Hp) (σ : L2.St) (H : Hp) (us : List V) (Q : L2.St → Hp → Prop), Sx B Hs σ H Γ → DvAll Hs us ds → (∀ Γ' Hs' σ' H', φ Γ' → Same Hs Hs' → Sx B Hs' σ' H' Γ' → wipe σ' vs = wipe σ vs → Q σ' H') → g us σ H Q
/-- tests of a comprehension -/
@[irreducible] def tpW (X : Cx) (ifs : List Expr) : TT := fun σ H Q => ∀ (pins : List (Addr × Obj)) (s : Shared), Inv X pins σ H s → wpAny (model X.prog X.w) X.A (forIn ifs true fun c r => if r = true then do let ok ← isTrue c X.env (eval c X.env); pure (ForInStep.yield ok) else pure (ForInStep.yield r)) (TP X pins σ Q) X.xe s
theorem tpI {X : Cx} {ifs : List Expr} {σ : L2.St} {H : Hp} {Q : Bool → Hp → Prop} (h : ∀ (pins : List (Addr × Obj)) (s : Shared), Inv X pins σ H s → wpAny (model X.prog X.w) X.A (forIn ifs true fun c r => if r = true then do let ok ← isTrue c X.env (eval c X.env); pure (ForInStep.yield ok) else pure (ForInStep.yield r)) (TP X pins σ Q) X.xe s) : tpW X ifs σ H Q := by unfold tpW; exact h
theorem tpE {X : Cx} {ifs : List Expr} {σ : L2.St} {H : Hp} {Q : Bool → Hp → Prop} (h : tpW X ifs σ H Q) : ∀ (pins : List (Addr × Obj)) (s : Shared), Inv X pins σ H s → wpAny (model X.prog X.w) X.A (forIn ifs true fun c r => if r = true then do let ok ← isTrue c X.env (eval c X.env); pure (ForInStep.yield ok) else pure (ForInStep.yield r)) (TP X pins σ Q) X.xe s := by unfold tpW at h; exact h
theorem pts_of {X : Cx} {ifs : List Expr} {t : TT} (p : PTs X ifs t) {σ : L2.St} {H : Hp} {Q : Bool → Hp → Prop} (h : t σ H Q) : tpW X ifs σ H Q := tpI fun pins s I => p.run pins s σ H Q I h
def GP (B : Bas) (X : Cx) (ifs : List Expr) (Γ : List Sl) (φ : Bool → List Sl → Prop) : Prop := ∀ (Hs : Hp) (σ : L2.St) (H : Hp) (Q : Bool → Hp → Prop), Sx B Hs σ H Γ →
  (∀ b Γ' Hs' H', φ b Γ' → Same Hs Hs' → Sx B Hs' σ H' Γ' → Q b H') → tpW X ifs σ H Q
section
variable {B : Bas} {X : Cx} {Γ : List Sl} {pos : Pos} {k : Nat} {vs : List Nat}
theorem gp_nil {φ : Bool → List Sl → Prop} (h : φ true Γ) : GP B X [] Γ φ := fun Hs σ H Q S g => pts_of pts_nil (g true Γ Hs H h (Same.refl _) S)
theorem gp_one {t : Expr} {φ : Bool → List Sl → Prop} (h : GT B X t Γ φ) : GP B X [t] Γ φ := fun Hs σ H Q S g => pts_of (pts_one pt_W) (h Hs σ H Q S g)
theorem gc_name (nd : X.N.Nodup) (i : Nat) {x : Str} {d : PyData} {φ : List Sl → Prop} (hi : X.N[i]? = some x) (hx : Loc X.env.scope x) (hm : i ∈ vs) (h : i < Γ.length ∧ φ (Γ.set i (.d d))) (hf : X.fn x = true ∨ X.env.scope.names.lookup x = some .local := by first | exact .inl rfl | exact .inr rfl | assumption) : GC B X vs (.Name x pos) d Γ φ := fun Hs σ H v Q S q g =>
  pg_of (pg_name (i := i) nd hi hx hf) (g _ Hs _ H h.2 (Same.refl _) (S.putD h.1 q) (wipe_eq (List.length_set ..) fun j hj => List.getElem?_set_ne fun z => hj (by rw [← z]; exact hm)))
theorem gcs_nil {φ : List Sl → Prop} (h : φ Γ) : GCs B X vs [] [] Γ φ := ⟨gNil, pgs_nil, fun Hs σ H us Q S q g => ⟨dvs_nil q, g Γ Hs σ H h (Same.refl _) S rfl⟩⟩
theorem gcs_cons {t : Expr} {ts : List Expr} {d : PyData} {ds : List PyData} {φ : List Sl → Prop} (M : List Sl) (h : GC B X vs t d Γ (· = M)) (h2 : GCs B X vs ts ds M φ)
    (hs : (assignEach (t :: ts) X.env).map (·.2) = assign t X.env :: (assignEach ts X.env).map (·.2) := by rfl) : GCs B X vs (t :: ts) (d :: ds) Γ φ := by
  obtain ⟨u, q, h2⟩ := h2
  refine ⟨gCons (tgW X t) u, pgs_cons pg_W q hs, fun Hs σ H us Q S dv k => ?_⟩
  cases dv with
  | cons a r => exact ⟨_, _, rfl, h Hs σ H _ _ S a fun Γ1 Hs1 σ1 H1 e s S1 w1 => by
      subst e
      exact h2 Hs1 σ1 H1 _ Q S1 (r.mono s) fun Γ2 Hs2 σ2 H2 p2 s2 S2 w2 => k Γ2 Hs2 σ2 H2 p2 (s.trans s2) S2 (w2.trans w1)⟩
theorem gc_tup (calm : X.calm = true) {ts : List Expr} {n1 : Nat} {ds : List PyData} {φ : List Sl → Prop} (h : GCs B X vs ts ds Γ φ) {n : Nat} (hn : (assignEach ts X.env).length = n := by rfl) (hl : ds.length = n := by rfl) (hst : (assignEach ts X.env).findIdx? (·.1) = none := by rfl) : GC B X vs (.Tuple ts n1 pos) (.tuple ds) Γ φ := fun Hs σ H v Q S q k => by
  obtain ⟨g, p, h⟩ := h
  refine pg_of (pg_tup calm p hn hst) ?_
  cases q with
  | tup r a => exact ⟨_, _, rfl, rdT (rd_up S.sub r), a.len.trans hl, h Hs σ H _ Q S a k⟩
/-- the block's contexts -/
abbrev blkX (X : Cx) (scope : Scope) (s : Shared) (H : Hp) (C : Addr) (cl : List (Str × Addr)) (fp : List Addr) : Cx := X.blk s H scope (compEnvC scope cl C X.env) fp
/-- what holds in all of the block's contexts -/
def Blk (X : Cx) (scope : Scope) (φ : Cx → Prop) : Prop := ∀ (s : Shared) (H : Hp) (C : Addr) (cl : List (Str × Addr)) (fp : List Addr), φ (blkX X scope s H C cl fp)
def tgB (X : Cx) (scope : Scope) (t : Expr) : TG := fun v σ H Q => ∀ s0 H0 C cl fp, tgW (blkX X scope s0 H0 C cl fp) t v σ H Q
def tpB (X : Cx) (scope : Scope) (ifs : List Expr) : TT := fun σ H Q => ∀ s0 H0 C cl fp, tpW (blkX X scope s0 H0 C cl fp) ifs σ H Q
def teB (X : Cx) (scope : Scope) (e : Expr) : TE := fun σ H Q => ∀ s0 H0 C cl fp, teW (blkX X scope s0 H0 C cl fp) e σ H Q
/-- [elt for t in iter if ..]; I: the turn, what is made so far -/
theorem gf_lc {elt t iter : Expr} {ifs : List Expr} {scope : Scope} {own : List (Str × Nat)} {φ : List PyData → List Sl → Prop} (calm : X.calm = true) (nd : X.N.Nodup) (ok : BlkOk X.N X.env.scope scope own)
    (h : GI B X t iter Γ fun n f keep Γ1 => ∃ I : Nat → List PyData → List Sl → Prop, I 0 [] (clr Γ1 (own.map (·.2))) ∧ (∀ i acc Γ, i ≤ n → I i acc Γ → keep Γ) ∧
      (∀ i acc Γ, i < n → I i acc Γ → ∀ B', Blk X scope fun Y => GC B' Y (own.map (·.2)) t (f i) (clr Γ (own.map (·.2))) fun Γ2 => Blk X scope fun Y => GP B' Y ifs Γ2 fun b Γ3 => if b = true then Blk X scope fun Y => GE B' Y elt Γ3 fun d Γ4 => acc.length < sizeLine ∧ I (i + 1) (acc ++ [d]) (clr Γ4 (own.map (·.2))) else I (i + 1) acc (clr Γ3 (own.map (·.2)))) ∧
      ∀ acc Γ, I n acc Γ → φ acc Γ)
    (hs : ∀ x, foldedSetIterable iter X.env x = pure x := by intro _; rfl) : GF B X (.ListComp elt [⟨t, iter, ifs, 0⟩] scope pos) Γ φ := fun Hs σ H Q S g =>
  pe_of (pe_lc (g := tgB X scope t) (tt := tpB X scope ifs) (te := teB X scope elt)
    calm nd pi_W ok (fun s0 H0 C cl fp => ⟨fun pins s _ _ _ u _ I r h => tgE (h s0 H0 C cl fp) pins s u I r⟩) (fun s0 H0 C cl fp => ⟨fun pins s _ _ _ I h => tpE (h s0 H0 C cl fp) pins s I⟩) (fun s0 H0 C cl fp => ⟨fun pins s _ _ _ I h => teE (h s0 H0 C cl fp) pins s I⟩) hs)
    (h Hs σ H _ S fun n f keep Γ1 J Hs1 H1 ⟨I, i0, ik, step, done⟩ s S1 ⟨G, Y, w, wg, wy⟩ D hD => by
      obtain ⟨fD, nD, al⟩ := alone_new S1 hD
      refine lc_it w (fun i H' => ∃ acc vs Γ' Hs', I i acc Γ' ∧ Same Hs1 Hs' ∧ Sx B Hs' σ H' Γ' ∧ H' D = some (.lst vs) ∧ DvAll Hs' vs acc ∧ Hs' D = none ∧ Alone Γ' D) ⟨[], [], _, Hs1, i0, Same.refl _, (S1.aside hD).clr rfl (fun _ _ => rfl), upd_same, .nil, nD, fun i b es e => al i b es (clr_some e fun z => nomatch z).2⟩ ?_ ?_ ?_
      · rintro i H' hi ⟨acc, vs, Γ', Hs', p, s', S', _⟩
        exact wg B Hs' σ H' Γ' (ik i acc Γ' hi p) s' S'
      · rintro i x H' H'' hi ⟨acc, vs, Γ', Hs', p, s', S', hD', dv, nD', al'⟩ y
        have SB := S'.hold hD' nD' fD al'
        have g0 : Grow B.fr B.hs Hs' := S'.gr
        obtain ⟨Hs2, s2, S2, dx⟩ := wy _ i Hs' σ H' Γ' x H'' hi (ik i acc Γ' (Nat.le_of_lt hi) p) s' SB y
        have body := step i acc Γ' hi p ⟨upd B.fr D (.lst vs), Hs', B.T⟩
        have S2w : Sx ⟨upd B.fr D (.lst vs), Hs', B.T⟩ Hs2 (wipe σ (own.map (·.2))) H'' (clr Γ' (own.map (·.2))) := S2.clr (wipe_length _ _) fun j hj => wipe_out hj
        have back : ∀ {Γ6 : List Sl} {Hs6 : Hp} {σ6 : L2.St} {H6 : Hp}, wipe σ6 (own.map (·.2)) = wipe σ (own.map (·.2)) → Sx ⟨upd B.fr D (.lst vs), Hs', B.T⟩ Hs6 σ6 H6 Γ6 → Sx B Hs6 σ H6 (clr Γ6 (own.map (·.2))) ∧ H6 D = some (.lst vs) ∧ Hs6 D = none ∧ Alone (clr Γ6 (own.map (·.2))) D := fun {Γ6 Hs6 σ6 H6} w6 S6 => by
          obtain ⟨l, e⟩ := wipe_same w6
          exact (S6.clr (vs := own.map (·.2)) l.symm fun j hj => (e j hj).symm).loose g0 fD nD'
        intro s0 H0 C cl fp
        refine body s0 H0 C cl fp Hs2 (wipe σ (own.map (·.2))) H'' x _ S2w dx fun Γ2 Hs3 σ3 H3 p3 s3 S3 w3 => ?_
        have w3 : wipe σ3 (own.map (·.2)) = wipe σ (own.map (·.2)) := w3.trans (wipe_eq (wipe_length _ _) fun j hj => wipe_out hj)
        refine ⟨w3, fun s0 H0 C cl fp => p3 s0 H0 C cl fp Hs3 σ3 H3 _ S3 fun b Γ3 Hs4 H4 p4 s4 S4 => ?_⟩
        cases b with
        | false =>
          obtain ⟨Sb, hb, nb, ab⟩ := back w3 S4
          have sAll : Same Hs' Hs4 := s2.trans (s3.trans s4)
          exact iteF ⟨acc, vs, _, Hs4, p4, s'.trans sAll, Sb, hb, dv.mono sAll, nb, ab⟩
        | true =>
          have p4 : Blk X scope fun Y => GE _ Y elt Γ3 fun d Γ4 => acc.length < sizeLine ∧ I (i + 1) (acc ++ [d]) (clr Γ4 (own.map (·.2))) := p4
          refine iteT fun s0 H0 C cl fp => p4 s0 H0 C cl fp Hs4 σ3 H4 _ S4 fun d Γ5 v5 Hs5 H5 ⟨hl, p5⟩ s5 S5 q5 => ?_
          obtain ⟨Sb, hb, nb, ab⟩ := back w3 S5
          have sAll : Same Hs' Hs5 := s2.trans (s3.trans (s4.trans s5))
          exact ⟨vs, hb, by rw [dv.len]; exact hl, acc ++ [d], vs ++ [v5], _, Hs5, p5, s'.trans sAll, Sb.beside hb rfl nb fD ab, upd_same, dvs_snoc (dv.mono sAll) q5, nb, ab⟩
      · rintro H' ⟨acc, vs, Γ', Hs', p, s', S', hD', dv, nD', al'⟩
        exact g acc Γ' D vs Hs' H' (done acc Γ' p) (s.trans s') S' fD nD' al' hD' dv)
end
end Px
/-! Defs: what they promise of data, how they are called; errors of one's own. -/
namespace Px
open PySem PySem.Spec PyProof.Rows L2 Tc
inductive Out where
  | ok (d : PyData)
  | up (C : Addr) (d : PyData)
def Out.to (o : Out) (a : PyData → Prop) (b : Addr → PyData → Prop) : Prop := match o with
  | .ok d => a d
  | .up C d => b C d
/-- it is raised, v kept -/
def upE (C : Addr) (v : V) (H : Hp) (E : XK) : Prop := ∀ dd, H dd = none → E (.ref C) (some dd) (upd H dd (.xd [("given", v)]))
/-- what a def of data gives -/
def spF (n : Nat) (pre : List PyData → Prop) (f : List PyData → Out) : Sp := fun vs H Q E => ∃ Hs ds, Same Hs H ∧ DvAll Hs vs ds ∧ ds.length = n ∧ pre ds ∧
  ∀ v Hs' H', Same H H' → Same Hs' H' → Grow H Hs Hs' → (f ds).to (fun d => Dv Hs' v d → Q v H') (fun C d => Dv Hs' v d → upE C v H' E)
/-- .. of a list that it changes, and of data; R tells what may come -/
def spP (n : Nat) (pre : List PyData → List PyData → Prop) (R : List PyData → List PyData → Out → List PyData → Prop) : Sp := fun vs H Q E => ∃ Hs a pv ws ps ds, vs = .ref a :: ws ∧ Same Hs H ∧ Hs a = none ∧ H a = some (.lst pv) ∧ DvAll Hs pv ps ∧ DvAll Hs ws ds ∧ ds.length = n ∧ pre ps ds ∧
  ∀ o ps', R ps ds o ps' → ∀ v Hs' H' pv', (∀ b u, H b = some u → b ≠ a → H' b = some u) → Same Hs' H' → Grow H Hs Hs' → H' a = some (.lst pv') → DvAll Hs' pv' ps' → o.to (fun d => Dv Hs' v d → Q v H') (fun C d => Dv Hs' v d → upE C v H' E)
/-- the slots at a def's start -/
def slots0 (N : List Str) (Γ : List Sl) : List Sl := Γ ++ List.replicate (N.length - Γ.length) .no
theorem start_get {N : List Str} {vs : List V} {i : Nat} {v : V} (h : vs[i]? = some v) : (L2.start N vs)[i]? = some (some v) := by
  show (vs.map some ++ _)[i]? = _
  rw [List.getElem?_append_left (by rw [List.length_map]; exact (List.getElem?_eq_some_iff.mp h).1), List.getElem?_map, h] <;> rfl
theorem slots_get {N : List Str} {Γ : List Sl} {i : Nat} {s : Sl} (h : (slots0 N Γ)[i]? = some s) : s = .no ∨ Γ[i]? = some s := by
  unfold slots0 at h
  by_cases l : i < Γ.length
  · rw [List.getElem?_append_left l] at h
    exact .inr h
  · rw [List.getElem?_append_right (by omega), List.getElem?_replicate] at h
    split at h
    · exact .inl (Option.some.inj h).symm
    · cases h
theorem map_get {ds : List PyData} {i : Nat} {s : Sl} (h : (ds.map Sl.d)[i]? = some s) : ∃ d, ds[i]? = some d ∧ s = .d d := by
  rw [List.getElem?_map] at h
  cases q : ds[i]? with
  | none => rw [q] at h; cases h
  | some d => rw [q] at h; exact ⟨d, rfl, (Option.some.inj h).symm⟩
section
variable {P : Program} {w : World} {K : PySem.W.Frag} {mg : Str → Option Value} {base : Heap}
/-- a def of data, by its body -/
theorem fn_data {x qual : Str} {st : Stmt} {f : Addr} {fd : FuncData} {N ps : List Str} {k : Nat} (F : Fun K x qual st f fd) (S : FnScope N ps (defScope st)) (sm : ∃ o, K.lookup sysModules = some o) (hl : ps.length ≤ N.length) (pre : List PyData → Prop) (g : List PyData → Out)
    (body : ∀ (cdv : Value) (A : Around) (outer : List Env) (s : Shared) (H : Hp) (E : XK) (B : Bas) (ds : List PyData), ds.length = ps.length → pre ds →
      Bod (cxOf (L2.CX P w) P w K mg base N qual (defScope st) f cdv A outer s H E) k → Exc B (cxOf (L2.CX P w) P w K mg base N qual (defScope st) f cdv A outer s H E) (fun C d _ => g ds = .up C d) →
      Gs B (cxOf (L2.CX P w) P w K mg base N qual (defScope st) f cdv A outer s H E) (defBody st) (slots0 N (ds.map .d)) { nx := fun _ => g ds = .ok .none, rt := fun d _ => g ds = .ok d }) :
    FnG P w K mg base (L2.CX P w) (k + 1) f fd ps (spF ps.length pre g) := by
  refine Fun.okG F S (fun vs H Q E h => ?_) (fun cdv A outer s H vs Q E hr hgd h => ?_)
  · obtain ⟨Hs, ds, _, d, l, _⟩ := h
    exact d.len.trans l
  · obtain ⟨Hs, ds, sub, dv, l, hp, q⟩ := h
    have tk := takes_of (X := cxOf (L2.CX P w) P w K mg base N qual (defScope st) f cdv A outer s H E) (E := E) rfl rfl rfl rfl
    have S0 : Sx ⟨H, Hs, []⟩ Hs (L2.start N vs) H (slots0 N (ds.map .d)) := by
      refine ⟨Same.refl _, Grow.refl _ _, sub, ?_, fun i t h => ?_, fun i j a es b fs h1 h2 n => ?_, tabs_nil⟩
      · show (vs.map some ++ List.replicate _ none).length = (ds.map Sl.d ++ _).length
        simp only [List.length_append, List.length_map, List.length_replicate, dv.len]
      · rcases slots_get h with rfl | h
        · exact trivial
        · obtain ⟨d, e, rfl⟩ := map_get h
          obtain ⟨v, ev, q⟩ := dvs_get dv e
          exact ⟨v, start_get ev, q⟩
      · rcases slots_get h1 with z | z
        · cases z
        · obtain ⟨d, _, z⟩ := map_get z
          cases z
    refine ⟨_, pss_W, body cdv A outer s H E ⟨H, Hs, []⟩ ds l hp ⟨⟨hr, hgd, sm⟩, S.nd, rfl, PassesOwn.leaving⟩ ⟨_, tk, fun C d Γ v Hs' σ' H' e T dvv dd hdd => ?_⟩ _ Hs _ H ⟨fun Γ Hs' σ' H' e _ T => ?_, fun d Γ v Hs' σ' H' e _ T dvv => ?_, fun _ _ _ _ z => z.elim, fun _ _ _ _ z => z.elim⟩ S0⟩
    · have z := q v Hs' H' T.fr T.sub T.gr
      rw [e] at z
      exact z dvv dd hdd
    · have z := q .non Hs' H' T.fr T.sub T.gr
      have e : g ds = .ok .none := e
      rw [e] at z
      exact z .non
    · have z := q v Hs' H' T.fr T.sub T.gr
      have e : g ds = .ok d := e
      rw [e] at z
      exact z dvv
/-- a def of a list that it changes -/
theorem fn_pail {x qual : Str} {st : Stmt} {f : Addr} {fd : FuncData} {N ps : List Str} {k n : Nat} (F : Fun K x qual st f fd) (S : FnScope N ps (defScope st)) (sm : ∃ o, K.lookup sysModules = some o) (hn : ps.length = n + 1) (pre : List PyData → List PyData → Prop) (R : List PyData → List PyData → Out → List PyData → Prop)
    (body : ∀ (cdv : Value) (A : Around) (outer : List Env) (s : Shared) (H : Hp) (E : XK) (B : Bas) (a : Addr) (ms ds : List PyData), ds.length = n → pre ms ds →
      Bod (cxOf (L2.CX P w) P w K mg base N qual (defScope st) f cdv A outer s H E) k → Exc B (cxOf (L2.CX P w) P w K mg base N qual (defScope st) f cdv A outer s H E) (fun C d Γ => ∃ ms', Γ[0]? = some (.own a ms') ∧ R ms ds (.up C d) ms') →
      Gs B (cxOf (L2.CX P w) P w K mg base N qual (defScope st) f cdv A outer s H E) (defBody st) (slots0 N (.own a ms :: ds.map .d)) { nx := fun Γ => ∃ ms', Γ[0]? = some (.own a ms') ∧ R ms ds (.ok .none) ms', rt := fun d Γ => ∃ ms', Γ[0]? = some (.own a ms') ∧ R ms ds (.ok d) ms' }) :
    FnG P w K mg base (L2.CX P w) (k + 1) f fd ps (spP n pre R) := by
  refine Fun.okG F S (fun vs H Q E h => ?_) (fun cdv A outer s H vs Q E hr hgd h => ?_)
  · obtain ⟨Hs, a, pv, ws, ms, ds, rfl, _, _, _, _, d, l, _⟩ := h
    rw [List.length_cons, d.len, l, hn]
  · obtain ⟨Hs, a, pv, ws, ms, ds, rfl, sub, na, ha, dp, dv, l, hp, q⟩ := h
    have tk := takes_of (X := cxOf (L2.CX P w) P w K mg base N qual (defScope st) f cdv A outer s H E) (E := E) rfl rfl rfl rfl
    -- all but the list
    generalize hG : (fun b => if b = a then none else H b : Hp) = G
    have Ga : G a = none := by rw [← hG]; exact if_pos rfl
    have Gb : ∀ b, b ≠ a → G b = H b := fun b hb => by rw [← hG]; exact if_neg hb
    have GH : Same G H := fun b o e => by
      by_cases z : b = a
      · rw [z, Ga] at e; cases e
      · rw [← Gb b z]; exact e
    have S0 : Sx ⟨G, Hs, []⟩ Hs (L2.start N (.ref a :: ws)) H (slots0 N (.own a ms :: ds.map .d)) := by
      refine ⟨GH, Grow.refl _ _, sub, ?_, fun i t h => ?_, fun i j b es c fs h1 h2 n => ?_, tabs_nil⟩
      · show ((V.ref a :: ws).map some ++ List.replicate _ none).length = ((Sl.own a ms :: ds.map Sl.d) ++ _).length
        simp only [List.length_append, List.length_map, List.length_replicate, List.length_cons, dv.len]
      · rcases slots_get h with rfl | h
        · exact trivial
        · cases i with
          | zero =>
            have e : t = .own a ms := (Option.some.inj h).symm
            subst e
            exact ⟨start_get rfl, Ga, na, pv, ha, dp⟩
          | succ i =>
            obtain ⟨d, e, rfl⟩ := map_get (show (ds.map Sl.d)[i]? = some t from h)
            obtain ⟨v, ev, q⟩ := dvs_get dv e
            exact ⟨v, start_get (show (V.ref a :: ws)[i + 1]? = some v from ev), q⟩
      · rcases slots_get h1 with z | z
        · cases z
        · cases i with
          | succ i =>
            obtain ⟨d, _, z⟩ := map_get (show (ds.map Sl.d)[i]? = _ from z)
            cases z
          | zero =>
            rcases slots_get h2 with z2 | z2
            · cases z2
            · cases j with
              | zero => exact absurd rfl n
              | succ j =>
                obtain ⟨d, _, z⟩ := map_get (show (ds.map Sl.d)[j]? = _ from z2)
                cases z
    have fin : ∀ {Γ : List Sl} {Hs' : Hp} {σ' : L2.St} {H' : Hp} {ms' : List PyData}, Sx ⟨G, Hs, []⟩ Hs' σ' H' Γ → Γ[0]? = some (.own a ms') → (∀ b u, H b = some u → b ≠ a → H' b = some u) ∧ Grow H Hs Hs' ∧ ∃ pv', H' a = some (.lst pv') ∧ DvAll Hs' pv' ms' := fun {Γ Hs' σ' H' ms'} T e => by
      obtain ⟨_, _, n', pv', h', d'⟩ := T.lst e
      refine ⟨fun b u eb nb => T.fr b u ((Gb b nb).trans eb), ⟨T.gr.same, fun b nb fb => ?_⟩, pv', h', d'⟩
      by_cases z : b = a
      · rw [z]
        exact n'
      · exact T.gr.off b nb (by show G b ≠ none; rw [Gb b z]; exact fb)
    refine ⟨_, pss_W, body cdv A outer s H E ⟨G, Hs, []⟩ a ms ds l hp ⟨⟨hr, hgd, sm⟩, S.nd, rfl, PassesOwn.leaving⟩ ⟨_, tk, fun C d Γ v Hs' σ' H' e T dvv dd hdd => ?_⟩ _ Hs _ H ⟨fun Γ Hs' σ' H' e _ T => ?_, fun d Γ v Hs' σ' H' e _ T dvv => ?_, fun _ _ _ _ z => z.elim, fun _ _ _ _ z => z.elim⟩ S0⟩
    · obtain ⟨ms', e0, r⟩ := e
      obtain ⟨k1, k2, pv', h', d'⟩ := fin T e0
      exact q (.up C d) ms' r v Hs' H' pv' k1 T.sub k2 h' d' dvv dd hdd
    · obtain ⟨ms', e0, r⟩ := e
      obtain ⟨k1, k2, pv', h', d'⟩ := fin T e0
      exact q (.ok .none) ms' r .non Hs' H' pv' k1 T.sub k2 h' d' .non
    · obtain ⟨ms', e0, r⟩ := e
      obtain ⟨k1, k2, pv', h', d'⟩ := fin T e0
      exact q (.ok d) ms' r v Hs' H' pv' k1 T.sub k2 h' d' dvv
end
/-! ### calls -/
section
variable {B : Bas} {X : Cx} {Γ : List Sl} {pos : Pos} {k j n : Nat} {E : DE}
theorem run_fnGS {CX : CXT} {f : Addr} {fd : FuncData} {ps : List Str} {sp : Sp} {pins : List (Addr × Obj)} {σ : L2.St} {H : Hp} {s : Shared} {Q : VK} {E : XK}
    {us : List Value} {vs : List V} (F : FnG X.prog X.w X.K X.mg X.base CX k f fd ps sp)
    (hr : Room k X.A) (hgd : X.A.guards = some []) (hb : Binds X.K fd ps [])
    (hx : PassesAt CX X σ E) (I : Inv X pins σ H s) (r : Vals vs us) (h : sp vs H Q E) :
    wpAny (model X.prog X.w) X.A (call (.ref f) us) (EP X pins σ Q) X.xe s := by
  have hl : us.length = ps.length := r.length ▸ F.len _ _ _ _ h
  have b := hb s us I.kIn (by rw [List.append_nil]; exact hl)
  rw [List.append_nil] at b
  have main := F.run X.A X.stack s H ⟨us, []⟩ us vs Q E hr hgd I.env0 b r h
  refine wpAny_call (codeAny_mono main ?_)
  intro res s' hq
  cases res with
  | error er => exact hx pins H s er s' I hq
  | ok fl =>
    cases fl with
    | ret u => exact I.after hq
    | next | brk | cont => exact False.elim hq
/-- a call by the def's name, its arguments some values -/
theorem call_W {x : Str} {p : Pos} {e : Expr} {es : List Expr} {ps : List Str} {sp : Sp} {W : WX} (F : Call X.prog X.w X.K X.mg X.base (L2.CX X.prog X.w) j x ps sp) (c : Cxt X k) (hj : j ≤ k) (hg : Gl X x) (tk : Takes X W)
    (hdb : (x == ("__debug__" : Str)) = false) (he : starEach (e :: es) X.env = (false, eval e X.env) :: starEach es X.env) (hpl : (backTo pos (starEach es X.env)).any (·.1) = false)
    {σ : L2.St} {H : Hp} {Q : VK} (h : taW X (e :: es) σ H fun vs H1 => sp vs H1 Q fun cl d H' => W cl d σ H') : teW X (.Call (.Name x p) (e :: es) [] pos) σ H Q := teI fun pins s I => by
  obtain ⟨f, fd, G, hm, hk, hb⟩ := F.ex
  refine wpAny_Call_Name_kw (ld_glob I hg hm ?_ hdb)
  refine PySem.W.callWith_K (h₀ := X.base) I.ok.mod.kin hk (thn (taE h pos pins s I) ?_) he hpl
  rintro us s1 ⟨vs, H1, I1, r, q⟩
  exact ⟨I1.kIn, run_fnGS G (c.room.mono hj) c.gd hb (fun pins H s e s' I c => tk e s' (XE.of_call I (fun _ _ _ h => h) c)) I1 r q⟩
/-- a def of data is called -/
theorem ge_call {x : Str} {p : Pos} {e : Expr} {es : List Expr} {ps : List Str} {pre : List PyData → Prop} {f : List PyData → Out} {ψ : Addr → PyData → List Sl → Prop} {φ : PyData → List Sl → Prop} (F : Call X.prog X.w X.K X.mg X.base (L2.CX X.prog X.w) j x ps (spF n pre f)) (c : Cxt X k) (hj : j ≤ k) (hg : Gl X x) (ex : Exc B X ψ)
    (h : GA B X (e :: es) Γ fun ds Γ1 => ds.length = n ∧ pre ds ∧ (f ds).to (fun d => φ d Γ1) (fun C d => ψ C d Γ1)) (hdb : (x == ("__debug__" : Str)) = false := by decide)
    (he : starEach (e :: es) X.env = (false, eval e X.env) :: starEach es X.env := by rfl) (hpl : (backTo pos (starEach es X.env)).any (·.1) = false := by rfl) : GE B X (.Call (.Name x p) (e :: es) [] pos) Γ φ := fun Hs σ H Q S g => by
  obtain ⟨W, tk, hW⟩ := ex
  refine call_W F c hj hg tk hdb he hpl (h Hs σ H _ S fun ds Γ1 vs Hs1 H1 ⟨l, hp, q⟩ s1 S1 dv => ⟨Hs1, ds, S1.sub, dv, l, hp, fun v Hs2 H2 k1 k2 k3 => ?_⟩)
  obtain ⟨s2, S2⟩ := S1.step k3 k1 k2
  cases e : f ds with
  | ok d =>
    rw [e] at q
    exact fun dd => g d Γ1 v Hs2 H2 q (s1.trans s2) S2 dd
  | up C d =>
    rw [e] at q
    exact fun dvv dd hdd => hW C d Γ1 v Hs2 σ H2 q S2 dvv dd hdd
/-- a def of a list that it changes is called: the list stands in the i-th slot -/
theorem ge_pail (i : Nat) {x y : Str} {p py : Pos} {es : List Expr} {ps : List Str} {a : Addr} {ms0 : List PyData} {pre : List PyData → List PyData → Prop} {R : List PyData → List PyData → Out → List PyData → Prop} {ψ : Addr → PyData → List Sl → Prop} {φ : PyData → List Sl → Prop} (F : Call X.prog X.w X.K X.mg X.base (L2.CX X.prog X.w) j x ps (spP n pre R)) (c : Cxt X k) (hj : j ≤ k) (hg : Gl X x) (ex : Exc B X ψ)
    (hN : X.N[i]? = some y) (hv : Vis X.env.scope y) (hΓ : Γ[i]? = some (.own a ms0))
    (h : GA B X es Γ fun ds Γ1 => ∃ ms, Γ1[i]? = some (.own a ms) ∧ ds.length = n ∧ pre ms ds ∧ ∀ o ms', R ms ds o ms' → o.to (fun d => φ d (Γ1.set i (.own a ms'))) (fun C d => ψ C d (Γ1.set i (.own a ms')))) (hdb : (x == ("__debug__" : Str)) = false := by decide)
    (hd : (y == ("__debug__" : Str)) = false := by decide) (hcd : (y == ("__classdict__" : Str)) = false := by decide)
    (he : starEach (.Name y py :: es) X.env = (false, eval (.Name y py) X.env) :: starEach es X.env := by rfl) (hpl : (backTo pos (starEach es X.env)).any (·.1) = false := by rfl) : GE B X (.Call (.Name x p) (.Name y py :: es) [] pos) Γ φ := fun Hs σ H Q S g => by
  obtain ⟨W, tk, hW⟩ := ex
  obtain ⟨e0, _⟩ := S.lst hΓ
  refine call_W F c hj hg tk hdb he hpl (pa_of (pa_cons (pe_var hN hv hd hcd) pa_W he) ⟨_, e0, h Hs σ H _ S fun ds Γ1 vs Hs1 H1 ⟨ms, g1, l, hp, q⟩ s1 S1 dv => ?_⟩)
  obtain ⟨_, f1, n1, pv, h1, d1⟩ := S1.lst g1
  refine ⟨Hs1, a, pv, vs, ms, ds, rfl, S1.sub, n1, h1, d1, dv, l, hp, fun o ms' r v Hs2 H2 pv' k1 k2 k3 h2 d2 => ?_⟩
  have q := q o ms' r
  have kk : ∀ b, B.fr b ≠ none → H1 b ≠ none := fun b hb => by
    cases z : B.fr b with
    | none => exact absurd z hb
    | some u => rw [S1.fr b u z]; exact fun z => nomatch z
  have S2 : Sx B Hs2 σ H2 (Γ1.set i (.own a ms')) := by
    refine ⟨fun b u e => k1 b u (S1.fr b u e) (fun z => by rw [z, f1] at e; cases e), S1.gr.trans (k3.mono kk), k2, by rw [List.length_set]; exact S1.len, fun j' t ej => ?_, fun j' l' b fs c' gs e1 e2 ne => ?_, tabs_pail S1.tb h1 k1 k3⟩
    · rcases get_set ej with ⟨rfl, rfl⟩ | ⟨nj, ej⟩
      · exact ⟨(S1.lst g1).1, f1, k3.off a n1 (by rw [h1]; exact fun z => nomatch z), pv', h2, d2⟩
      · refine (S1.sl j' t ej).mono k3.same fun b fs z => ?_
        subst z
        obtain ⟨_, _, nb, vb, hb, _⟩ := S1.lst ej
        exact ⟨k3.off b nb (by rw [hb]; exact fun z => nomatch z), (k1 b _ hb (S1.ap j' i b fs a ms ej g1 nj)).trans hb.symm⟩
    · rcases get_set e1 with ⟨rfl, z⟩ | ⟨m1, d1⟩
      · cases z
        rcases get_set e2 with ⟨rfl, z⟩ | ⟨m2, d2⟩
        · exact absurd rfl ne
        · exact (S1.ap l' j' c' gs a ms d2 g1 m2).symm
      · rcases get_set e2 with ⟨rfl, z⟩ | ⟨m2, d2⟩
        · cases z
          exact S1.ap j' l' b fs a ms d1 g1 m1
        · exact S1.ap j' l' b fs c' gs d1 d2 ne
  cases o with
  | ok d => exact fun dd => g d _ v Hs2 H2 q (s1.trans k3.same) S2 dd
  | up C d => exact fun dvv dd hdd => hW C d _ v Hs2 σ H2 q S2 dvv dd hdd
end
end Px
/-! zip of a list and a tuple, either way round. -/
namespace Tz
open PySem PySem.Spec PyProof.Rows L2
/-- a list (k), else a tuple; its iterator -/
def Seq2 (k : Bool) (h : Heap) (a : Addr) (xs : Array Value) : Prop := match k with
  | true => h.IsList a xs
  | false => h.IsTuple a xs
def Run2 (k : Bool) (h : Heap) (it a : Addr) (i : Nat) : Prop := match k with
  | true => h.IsListIter it a i
  | false => h.IsTupleIter it a i
theorem Seq2.but {k : Bool} {h h' : Heap} {a b : Addr} {xs : Array Value} (q : Seq2 k h a xs) (s : Heap.ExtBut b h h') (n : a ≠ b) : Seq2 k h' a xs := by
  cases k with
  | true => exact Heap.IsList.extBut q s n
  | false => exact Heap.IsTuple.extBut q s n
theorem Run2.but {k : Bool} {h h' : Heap} {it a b : Addr} {i : Nat} (q : Run2 k h it a i) (s : Heap.ExtBut b h h') (n : it ≠ b) : Run2 k h' it a i := by
  cases k with
  | true => exact Heap.IsListIter.extBut q s n
  | false => exact Heap.IsTupleIter.extBut q s n
theorem Run2.on {k : Bool} {h h' : Heap} {it a : Addr} {i : Nat} (q : Run2 k h it a i) (s : ∀ o, h.get? it = some o → h'.get? it = some o) : Run2 k h' it a i := by
  cases k with
  | true => exact Heap.IsListIter.at q s
  | false => exact Heap.IsTupleIter.at q s
theorem Run2.obj {k : Bool} {h : Heap} {it a : Addr} {i : Nat} (q : Run2 k h it a i) : ∃ o vs, h.get? it = some o ∧ o.data = .fields vs := by
  cases k with
  | true =>
    obtain ⟨o, e, _, d⟩ := q
    exact ⟨o, _, e, d⟩
  | false =>
    obtain ⟨o, e, _, d⟩ := q
    exact ⟨o, _, e, d⟩
section
variable {prog : Program} {w : World} {A : Around} {E : Value → Shared → Prop} {s : Shared} {k kk : Bool}
theorem step_one {it a : Addr} {i : Nat} {xs : Array Value} {x : Value} {Q : Value → Shared → Prop} (r : Run2 k s.heap it a i) (q : Seq2 k s.heap a xs) (e : xs[i]? = some x)
    (g : ∀ h', Run2 k h' it a (i + 1) → Heap.SameBut it s.heap h' → Q x { s with heap := h' }) : wpAny (model prog w) A (Builtin.SmallTypes.nextOf (.ref it)) Q E s := by
  cases k with
  | true => exact wpAny_nextOf_list_item r q e g
  | false => exact RZ.nextOf_tuple_item r q e g
theorem step_end {it a : Addr} {i : Nat} {xs : Array Value} {Q : Value → Shared → Prop} (hh : A.handled = none) (r : Run2 k s.heap it a i) (q : Seq2 k s.heap a xs) (e : xs[i]? = none)
    (g : ∀ h' x, Heap.ExtBut it s.heap h' → (∃ o, h'.get? x = some o ∧ o.cls = .type "StopIteration") → E (.ref x) { s with heap := h' }) : wpAny (model prog w) A (Builtin.SmallTypes.nextOf (.ref it)) Q E s := by
  cases k with
  | true => exact wpAny_nextOf_list_end hh r q e g
  | false => exact RZ.nextOf_tuple_end hh r q e g
end
/-! ### made -/
def iterO (k : Bool) (a : Addr) : Obj := { cls := .type (if k = true then "list_iterator" else "tuple_iterator"), data := .fields #[.ref a, .int 0 0] }
def h1 (k : Bool) (h : Heap) (a : Addr) : Heap := h.push (iterO k a)
def h2 (k kk : Bool) (h : Heap) (a b : Addr) : Heap := (h1 k h a).push (iterO kk b)
def h3 (k kk : Bool) (h : Heap) (a b : Addr) : Heap := (h2 k kk h a b).push { cls := .type "tuple", data := .seq #[.ref h.objs.size, .ref (h1 k h a).objs.size] }
def h4 (k kk : Bool) (h : Heap) (a b : Addr) : Heap := (h3 k kk h a b).push { cls := .type "tuple", data := .seq #[.none, .none] }
def h5 (k kk : Bool) (h : Heap) (a b : Addr) : Heap := (h4 k kk h a b).push { cls := .type "zip", data := .fields #[.none, .bool false, .bool false, .ref (h2 k kk h a b).objs.size, .ref (h3 k kk h a b).objs.size] }
section
variable {prog : Program} {w : World} {A : Around} {E : Value → Shared → Prop} {s : Shared}
theorem made (k kk : Bool) (h : Heap) (a b : Addr) : (h4 k kk h a b).objs.size = h.objs.size + 4 ∧ IsZip (h5 k kk h a b) (h.objs.size + 4) (h.objs.size + 2) (h.objs.size + 3) .none ∧ IsPair (h5 k kk h a b) (h.objs.size + 2) (.ref h.objs.size) (.ref (h.objs.size + 1)) ∧
    IsPair (h5 k kk h a b) (h.objs.size + 3) .none .none ∧ Run2 k (h5 k kk h a b) h.objs.size a 0 ∧ Run2 kk (h5 k kk h a b) (h.objs.size + 1) b 0 ∧ ∀ c o, h.get? c = some o → (h5 k kk h a b).get? c = some o := by
  have s1 : (h1 k h a).objs.size = h.objs.size + 1 := Heap.size_push ..
  have s2 : (h2 k kk h a b).objs.size = h.objs.size + 2 := (Heap.size_push ..).trans (by rw [s1])
  have s3 : (h3 k kk h a b).objs.size = h.objs.size + 3 := (Heap.size_push ..).trans (by rw [s2])
  have s4 : (h4 k kk h a b).objs.size = h.objs.size + 4 := (Heap.size_push ..).trans (by rw [s3])
  have u1 : ∀ c o, h.get? c = some o → (h1 k h a).get? c = some o := fun c o e => Heap.get?_push_of_some _ e
  have u2 : ∀ c o, (h1 k h a).get? c = some o → (h2 k kk h a b).get? c = some o := fun c o e => Heap.get?_push_of_some _ e
  have u3 : ∀ c o, (h2 k kk h a b).get? c = some o → (h3 k kk h a b).get? c = some o := fun c o e => Heap.get?_push_of_some _ e
  have u4 : ∀ c o, (h3 k kk h a b).get? c = some o → (h4 k kk h a b).get? c = some o := fun c o e => Heap.get?_push_of_some _ e
  have u5 : ∀ c o, (h4 k kk h a b).get? c = some o → (h5 k kk h a b).get? c = some o := fun c o e => Heap.get?_push_of_some _ e
  have g1 : (h1 k h a).get? h.objs.size = some (iterO k a) := Heap.get?_push_size _ rfl
  have g2 : (h2 k kk h a b).get? (h.objs.size + 1) = some (iterO kk b) := by rw [← s1]; exact Heap.get?_push_size _ rfl
  have g3 : IsPair (h3 k kk h a b) (h.objs.size + 2) (.ref h.objs.size) (.ref (h.objs.size + 1)) := by
    rw [← s2, ← s1]
    exact Heap.get?_push_size _ rfl
  have g4 : IsPair (h4 k kk h a b) (h.objs.size + 3) .none .none := by
    rw [← s3]
    exact Heap.get?_push_size _ rfl
  have g5 : IsZip (h5 k kk h a b) (h.objs.size + 4) (h.objs.size + 2) (h.objs.size + 3) .none := by
    rw [← s4, ← s3, ← s2]
    exact Heap.get?_push_size _ rfl
  have r1 : (h5 k kk h a b).get? h.objs.size = some (iterO k a) := u5 _ _ (u4 _ _ (u3 _ _ (u2 _ _ g1)))
  have r2 : (h5 k kk h a b).get? (h.objs.size + 1) = some (iterO kk b) := u5 _ _ (u4 _ _ (u3 _ _ g2))
  refine ⟨s4, g5, u5 _ _ (u4 _ _ g3), u5 _ _ g4, ?_, ?_, fun c o e => u5 _ _ (u4 _ _ (u3 _ _ (u2 _ _ (u1 _ _ e))))⟩
  · cases k with
    | true => exact ⟨_, r1, rfl, rfl⟩
    | false => exact ⟨_, r1, rfl, rfl⟩
  · cases kk with
    | true => exact ⟨_, r2, rfl, rfl⟩
    | false => exact ⟨_, r2, rfl, rfl⟩
end
end Tz
namespace Tz
open PySem PySem.Spec PyProof.Rows L2
def SqX (k : Bool) (K : PySem.W.Frag) (H : Hp) (a : Addr) (xs : List V) : Prop := match k with
  | true => SqL K H a xs
  | false => SqT K H a xs
end Tz
/-! zip of two sequences of any kinds, walked. -/
namespace Tz
open PySem PySem.Spec PyProof.Rows L2
end Tz
/-! max(x) of a tuple of ints. -/
namespace Tc
open PySem PySem.Spec PyProof.Rows L2
theorem reads_ints {h : Heap} : ∀ {us : List Value} {ns : List Int}, IntsAre us ns → ∃ as, ReadsAll h us (ns.map PyData.int) as
  | _, _, .nil => ⟨_, .nil⟩
  | _, _, .cons n t r => by
    obtain ⟨as, z⟩ := reads_ints (h := h) r
    exact ⟨_, .cons (Reads.int n t) z⟩
theorem alike_ints (ns : List Int) : PySem.W.AlikeAll (ns.map PyData.int) := by
  refine ⟨fun x hx y hy => ?_, fun x hx => ?_⟩
  · obtain ⟨i, _, rfl⟩ := List.mem_map.mp hx
    obtain ⟨j, _, rfl⟩ := List.mem_map.mp hy
    rfl
  · obtain ⟨i, _, rfl⟩ := List.mem_map.mp hx
    exact fun e => nomatch e
theorem depth_ints : ∀ l : List Int, PyData.depthAll (l.map PyData.int) = 0
  | [] => rfl
  | i :: l => by
    show max 0 (PyData.depthAll (l.map PyData.int)) = 0
    rw [depth_ints l] <;> rfl
theorem foldl_max : ∀ (l : List Int) (n : Int), (l.foldl max n) ∈ n :: l ∧ ∀ y ∈ n :: l, y ≤ l.foldl max n
  | [], n => ⟨.head _, fun y hy => by
    cases hy with
    | head => exact Int.le_refl _
    | tail _ h => cases h⟩
  | m :: l, n => by
    obtain ⟨h1, h2⟩ := foldl_max l (max n m)
    refine ⟨?_, fun y hy => ?_⟩
    · show l.foldl max (max n m) ∈ n :: m :: l
      rcases List.mem_cons.mp h1 with e | e
      · rw [e]
        rcases Int.le_total n m with z | z
        · rw [Int.max_eq_right z]
          exact .tail _ (.head _)
        · rw [Int.max_eq_left z]
          exact .head _
      · exact .tail _ (.tail _ e)
    · show y ≤ l.foldl max (max n m)
      have h0 := h2 (max n m) (.head _)
      rcases List.mem_cons.mp hy with e | e
      · rw [e]
        exact Int.le_trans (Int.le_max_left n m) h0
      · rcases List.mem_cons.mp e with e | e
        · rw [e]
          exact Int.le_trans (Int.le_max_right n m) h0
        · exact h2 y (.tail _ e)
section
variable {X : Cx}
/-- max(x) of a tuple of ints -/
def rMaxT (K : PySem.W.Frag) : List V → Hp → VK → Prop := fun vs H Q => ∃ (a : Addr) (ns : List Int), vs = [V.ref a] ∧ SqT K H a (ns.map V.int) ∧ 0 < ns.length ∧ ∀ m, m ∈ ns → (∀ y, y ∈ ns → y ≤ m) → Q (.int m) H
theorem cr_maxT (hc : X.calm = true) (hu : X.A.units + 64 < cLine) : CallR X (.builtin "max") (rMaxT X.K) := by
  intro pins s σ H vs us Q I r h
  obtain ⟨a, ns, rfl, hs, hne, q⟩ := h
  obtain ⟨its, rv, hT, _⟩ := I.tuple hs
  rw [Vals.ref1 r]
  have hi := rv.ints
  cases ns with
  | nil => exact absurd hne (by decide)
  | cons n r =>
  obtain ⟨as, ra⟩ := reads_ints (h := s.heap) hi
  refine PySem.W.max_tuple_data (I.ok.hd hc) hT (by simpa using ra) (alike_ints (n :: r)) ?_ fun i v h' tk bs hv hr hk => ?_
  · have z := depth_ints (n :: r)
    rw [show PyData.int n :: r.map PyData.int = (n :: r).map PyData.int from rfl, z]
    omega
  rw [PySem.W.maxD_ints] at hr
  obtain ⟨t, e⟩ : ∃ t, v = Value.int (r.foldl max n) t := by
    cases hr with
    | int i t => exact ⟨t, rfl⟩
  obtain ⟨m1, m2⟩ := foldl_max r n
  exact ⟨.int (r.foldl max n), H, I.kept hk, ⟨t, e⟩, q _ m1 m2⟩
end
end Tc
/-! sum of a tuple of ints. -/
namespace Tz
open PySem PySem.Spec PyProof.Rows L2
section
variable {prog : Program} {w : World} {A : Around} {E : Value → Shared → Prop} {s : Shared} {l : Addr}
theorem sum_tup {ps : Array (Int × Tok)} {Q : Value → Shared → Prop} (hh : A.handled = none) (q : s.heap.IsTuple l (intItems ps))
    (g : ∀ h' tk t, (∀ b o, s.heap.get? b = some o → h'.get? b = some o) → Q (.int (preSum (numAt ps) ps.size) t) { s with heap := h', toks := tk }) : wpAny (model prog w) A (call (.builtin "sum") [.ref l]) Q E s := by
  have lt : l < s.heap.objs.size := by
    obtain ⟨o, e, _⟩ := id q
    exact Heap.lt_size e
  refine call_sum_walkG (wpAny_pyIter_tuple q ?_)
  have up : ∀ b o, s.heap.get? b = some o → (s.heap.push { cls := .type "tuple_iterator", data := .fields #[.ref l, .int 0 0] }).get? b = some o := fun b o e => Heap.get?_push_of_some _ e
  have st : (s.heap.push { cls := .type "tuple_iterator", data := .fields #[.ref l, .int 0 0] }).IsTupleIter s.heap.objs.size l 0 ∧ (s.heap.push { cls := .type "tuple_iterator", data := .fields #[.ref l, .int 0 0] }).IsTuple l (intItems ps) := ⟨⟨_, Heap.get?_push_size _ rfl, rfl, rfl⟩, q.push _⟩
  have within : ∀ b ∈ [s.heap.objs.size, l], b < (s.heap.push { cls := .type "tuple_iterator", data := .fields #[.ref l, .int 0 0] }).objs.size := fun b hb => by
    rw [Heap.size_push]
    rcases List.mem_cons.mp hb with e | hb
    · rw [e]
      exact Nat.lt_succ_self _
    · rw [List.mem_singleton.mp hb]
      exact Nat.lt_succ_of_lt lt
  refine ⟨_, _, _, _, _, _, numAt ps, rfl, Walks.tuple (A := A.in1) hh _ l (Nat.ne_of_lt lt) (intItems ps), st, within, (fun _ _ => intItems_at), fun h' tk t kp => ?_⟩
  have z := g h' tk t fun b o e => kp b o (fun hm => absurd (Heap.lt_size e) (by rw [List.mem_singleton.mp hm]; exact Nat.lt_irrefl _)) (up b o e)
  simpa [intItems] using z
end
def rSumT (K : PySem.W.Frag) : List V → Hp → VK → Prop := fun vs H Q => ∃ (a : Addr) (ns : List Int), vs = [V.ref a] ∧ SqT K H a (ns.map V.int) ∧ Q (.int ns.sum) H
theorem cr_sumT {X : Cx} (hc : X.calm = true) : CallR X (.builtin "sum") (rSumT X.K) := by
  intro pins s σ H vs us Q I r h
  obtain ⟨a, ns, rfl, hs, q⟩ := h
  obtain ⟨its, rv, p, _⟩ := I.tuple hs
  rw [Vals.ref1 r]
  have hi := rv.ints
  obtain ⟨ps, e⟩ := hi.allInts.items
  have hn : numsOf (intItems ps).toList = ns := by rw [← e]; exact hi.numsOf
  rw [nums_intItems] at hn
  have p : s.heap.IsTuple a its.toArray := p
  rw [e] at p
  refine sum_tup (I.ok.hd hc) p fun h' tk t kp => ?_
  rw [preSum_eq, List.take_of_length_le (by simp), hn]
  exact ⟨.int ns.sum, H, I.kept (t' := tk) kp, ⟨t, rfl⟩, q⟩
end Tz
/-! Built-ins, slices, texts. -/
namespace Px
open PySem PySem.Spec PyProof.Rows L2 Tc
section
variable {B : Bas} {X : Cx} {Γ : List Sl} {pos : Pos} {k : Nat}
/-! ### one argument, a plain answer -/
def Fn1 (r : List V → Hp → VK → Prop) (d : PyData) (k : PyData → Prop) : Prop := ∀ (H : Hp) (v : V) (Q : VK), Dv H v d → (∀ d' v', k d' → (∀ H', Dv H' v' d') → Q v' H) → r [v] H Q
theorem ge_b1 {x : Str} {p : Pos} {a : Expr} {id : String} {r : List V → Hp → VK → Prop} {φ : PyData → List Sl → Prop} (hc : CallR X (.builtin id) r) (R : PyData → (PyData → Prop) → Prop) (sem : ∀ d k, R d k → Fn1 r d k) (hg : Gl X x) (hm : X.mg x = none) (hv : bootBuiltins x = some (.builtin id))
    (h : GB B X a Γ fun d Γ1 => R d fun d' => φ d' Γ1) (hn : x ≠ "__name__" := by decide) (hdb : (x == ("__debug__" : Str)) = false := by decide) (he : starEach [a] X.env = (false, eval a X.env) :: starEach [] X.env := by rfl) : GE B X (.Call (.Name x p) [a] [] pos) Γ φ := fun Hs σ H Q S g =>
  pe_of (pe_callB hc hg hm hv (pa_cons pe_W pa_nil he) hn hdb (he := he)) (show teW X a σ H _ from h Hs σ H _ S fun d Γ1 v Hs1 H1 p s S1 q => sem d _ p H1 v Q q fun d' v' kd hd => g d' Γ1 v' Hs1 H1 kd s S1 (hd Hs1))
theorem ge_t1 {x : Str} {p : Pos} {a : Expr} {id : String} {r : List V → Hp → VK → Prop} {φ : PyData → List Sl → Prop} (hc : CallR X (.type id) r) (R : PyData → (PyData → Prop) → Prop) (sem : ∀ d k, R d k → Fn1 r d k) (hg : Gl X x) (hm : X.mg x = none) (hv : bootBuiltins x = some (.type id))
    (h : GB B X a Γ fun d Γ1 => R d fun d' => φ d' Γ1) (hn : x ≠ "__name__" := by decide) (hdb : (x == ("__debug__" : Str)) = false := by decide) (he : starEach [a] X.env = (false, eval a X.env) :: starEach [] X.env := by rfl) : GE B X (.Call (.Name x p) [a] [] pos) Γ φ := fun Hs σ H Q S g =>
  pe_of (pe_callTy hc hg hm hv (pa_cons pe_W pa_nil he) hn hdb (he := he)) (show teW X a σ H _ from h Hs σ H _ S fun d Γ1 v Hs1 H1 p s S1 q => sem d _ p H1 v Q q fun d' v' kd hd => g d' Γ1 v' Hs1 H1 kd s S1 (hd Hs1))
def IntF (d : PyData) (k : PyData → Prop) : Prop := match d with
  | .int i => k (.int i)
  | .bool b => k (.int (if b then 1 else 0))
  | .str z => ∃ n, PySem.intText? z = some n ∧ z.length ≤ 640 ∧ k (.int n)
  | _ => False
def SumD (d : PyData) (k : PyData → Prop) : Prop := ∃ ns : List Int, (d = .list (ns.map .int) ∨ d = .tuple (ns.map .int)) ∧ k (.int ns.sum)
def MaxD (d : PyData) (k : PyData → Prop) : Prop := ∃ ns : List Int, (d = .list (ns.map .int) ∨ d = .tuple (ns.map .int)) ∧ 0 < ns.length ∧ ∀ m, m ∈ ns → (∀ y, y ∈ ns → y ≤ m) → k (.int m)
def MinD (d : PyData) (k : PyData → Prop) : Prop := ∃ ns : List Int, d = .list (ns.map .int) ∧ 0 < ns.length ∧ ∀ m, m ∈ ns → (∀ y, y ∈ ns → m ≤ y) → k (.int m)
def AllD (d : PyData) (k : PyData → Prop) : Prop := ∃ bs : List Bool, d = .list (bs.map .bool) ∧ k (.bool (bs.all id))
def RepD (d : PyData) (k : PyData → Prop) : Prop := Good d ∧ k (.str d.shown)
def rInt (xs : List V) (H : Hp) (Q : VK) : Prop := ((∃ i, xs = [.int i] ∧ Q (.int i) H) ∨ ∃ k, xs = [.bl k] ∧ Q (.int (if k then 1 else 0)) H) ∨ ∃ a n, xs = [.str a] ∧ PySem.intText? a = some n ∧ a.length ≤ 640 ∧ Q (.int n) H
theorem call_intA : CallR X (.type "int") rInt := CallR.or call_int1 call_int_str
theorem sem_int1 (d : PyData) (k : PyData → Prop) (h : IntF d k) : Fn1 rInt d k := fun H v Q q g => by
  cases q with
  | int i => exact .inl (.inl ⟨i, rfl, g _ _ h fun _ => .int _⟩)
  | bl b => exact .inl (.inr ⟨b, rfl, g _ _ h fun _ => .int _⟩)
  | str z =>
    obtain ⟨n, e, l, h⟩ := h
    exact .inr ⟨z, n, rfl, e, l, g _ _ h fun _ => .int _⟩
  | _ => exact h.elim
theorem sem_sum {K : PySem.W.Frag} (d : PyData) (k : PyData → Prop) (h : SumD d k) : Fn1 (fun xs H Q => rSum K xs H Q ∨ Tz.rSumT K xs H Q) d k := fun H v Q q g => by
  obtain ⟨ns, rfl | rfl, h⟩ := h
  · cases q with
    | lst r a =>
      rw [dvs_ints a] at r
      exact .inl ⟨_, ns, rfl, rdL r, g _ _ h fun _ => .int _⟩
  · cases q with
    | tup r a =>
      rw [dvs_ints a] at r
      exact .inr ⟨_, ns, rfl, rdT r, g _ _ h fun _ => .int _⟩
theorem sem_min {K : PySem.W.Frag} (d : PyData) (k : PyData → Prop) (h : MinD d k) : Fn1 (rMin K) d k := fun H v Q q g => by
  obtain ⟨ns, rfl, l, h⟩ := h
  cases q with
  | lst r a =>
    rw [dvs_ints a] at r
    exact ⟨_, ns, rfl, rdL r, l, fun m hm hy => g _ _ (h m hm hy) fun _ => .int _⟩
theorem sem_max {K : PySem.W.Frag} (d : PyData) (k : PyData → Prop) (h : MaxD d k) : Fn1 (fun xs H Q => rMax K xs H Q ∨ rMaxT K xs H Q) d k := fun H v Q q g => by
  obtain ⟨ns, rfl | rfl, l, h⟩ := h
  · cases q with
    | lst r a =>
      rw [dvs_ints a] at r
      exact .inl ⟨_, ns, rfl, rdL r, l, fun m hm hy => g _ _ (h m hm hy) fun _ => .int _⟩
  · cases q with
    | tup r a =>
      rw [dvs_ints a] at r
      exact .inr ⟨_, ns, rfl, rdT r, l, fun m hm hy => g _ _ (h m hm hy) fun _ => .int _⟩
theorem sem_repr (d : PyData) (k : PyData → Prop) (h : RepD d k) : Fn1 rRepr d k := fun H v Q q g => ⟨v, d, rfl, q, h.1.1, h.1.2.1, h.1.2.2, g _ _ h.2 fun _ => .str _⟩
section
variable {x : Str} {p : Pos} {a : Expr} {φ : PyData → List Sl → Prop}
theorem ge_int1 (hx : x = "int") (hg : Gl X x) (hm : X.mg x = none) (h : GB B X a Γ fun d Γ1 => IntF d fun d' => φ d' Γ1) (he : starEach [a] X.env = (false, eval a X.env) :: starEach [] X.env := by rfl) : GE B X (.Call (.Name x p) [a] [] pos) Γ φ := by
  subst hx; exact ge_t1 call_intA IntF sem_int1 hg hm (by decide +kernel) h (he := he)
theorem ge_sum (calm : X.calm = true) (hx : x = "sum") (hg : Gl X x) (hm : X.mg x = none) (h : GB B X a Γ fun d Γ1 => SumD d fun d' => φ d' Γ1) (he : starEach [a] X.env = (false, eval a X.env) :: starEach [] X.env := by rfl) : GE B X (.Call (.Name x p) [a] [] pos) Γ φ := by
  subst hx; exact ge_b1 (CallR.or (cr_sum calm) (Tz.cr_sumT calm)) SumD sem_sum hg hm (by decide +kernel) h (he := he)
theorem ge_min1 (calm : X.calm = true) (hx : x = "min") (hg : Gl X x) (hm : X.mg x = none) (h : GB B X a Γ fun d Γ1 => MinD d fun d' => φ d' Γ1) (he : starEach [a] X.env = (false, eval a X.env) :: starEach [] X.env := by rfl) : GE B X (.Call (.Name x p) [a] [] pos) Γ φ := by
  subst hx; exact ge_b1 (cr_min calm) MinD sem_min hg hm (by decide +kernel) h (he := he)
theorem ge_max1 (calm : X.calm = true) (c : Cxt X k) (hx : x = "max") (hg : Gl X x) (hm : X.mg x = none) (h : GB B X a Γ fun d Γ1 => MaxD d fun d' => φ d' Γ1) (he : starEach [a] X.env = (false, eval a X.env) :: starEach [] X.env := by rfl) : GE B X (.Call (.Name x p) [a] [] pos) Γ φ := by
  subst hx; exact ge_b1 (CallR.or (cr_max calm) (cr_maxT calm c.room.units)) MaxD sem_max hg hm (by decide +kernel) h (he := he)
theorem ge_repr (c : Cxt X k) (hx : x = "repr") (hg : Gl X x) (hm : X.mg x = none) (h : GB B X a Γ fun d Γ1 => RepD d fun d' => φ d' Γ1) (he : starEach [a] X.env = (false, eval a X.env) :: starEach [] X.env := by rfl) : GE B X (.Call (.Name x p) [a] [] pos) Γ φ := by
  subst hx; exact ge_b1 (call_repr c.room c.gd c.sm) RepD sem_repr hg hm (by decide +kernel) h (he := he)
/-! ### isinstance of a built-in kind -/
def isD (T : String) (d : PyData) : Bool := tyIs (tyD d) T
theorem ge_isi {y : Str} {py : Pos} {T : String} (hx : x = "isinstance") (hg : Gl X x) (hm : X.mg x = none) (gy : Gl X y) (my : X.mg y = none) (by_ : bootBuiltins y = some (.type T)) (hT : T ∈ ["int", "bool", "tuple", "str", "list"])
    (h : GB B X a Γ fun d Γ1 => notI d = true ∧ φ (.bool (isD T d)) Γ1) (hn : y ≠ "__name__" := by decide) (hdb : (y == ("__debug__" : Str)) = false := by decide)
    (he : starEach [a, .Name y py] X.env = (false, eval a X.env) :: starEach [.Name y py] X.env := by rfl) (he2 : starEach [.Name y py] X.env = (false, eval (.Name y py) X.env) :: starEach [] X.env := by rfl) (hpl : (backTo pos (starEach [.Name y py] X.env)).any (·.1) = false := by rfl) : GE B X (.Call (.Name x p) [a, .Name y py] [] pos) Γ φ := by
  subst hx
  exact fun Hs σ H Q S g => pe_of (pe_callB call_isi hg hm (by decide +kernel) (pa_cons pe_W (pa_cons (pe_bltn (v := .ty T) gy my by_ rfl hn hdb) pa_nil he2) he) (he := he) (hpl := hpl)) (show teW X a σ H _ from h Hs σ H _ S fun d Γ1 v Hs1 H1 ⟨ni, p⟩ s S1 q => isi_D q ni hT (g _ Γ1 _ Hs1 H1 p s S1 (.bl _)))
/-! ### two ints -/
theorem ge_min2 {b : Expr} (calm : X.calm = true) (hx : x = "min") (hg : Gl X x) (hm : X.mg x = none) (h : GA B X [a, b] Γ fun ds Γ1 => ∃ i j : Int, ds = [.int i, .int j] ∧ φ (.int (if j < i then j else i)) Γ1)
    (he : starEach [a, b] X.env = (false, eval a X.env) :: starEach [b] X.env := by rfl) (hpl : (backTo pos (starEach [b] X.env)).any (·.1) = false := by rfl) : GE B X (.Call (.Name x p) [a, b] [] pos) Γ φ := by
  subst hx
  exact fun Hs σ H Q S g => pe_of (pe_callB (call_min2 calm) hg hm (by decide +kernel) pa_W (he := he) (hpl := hpl)) (h Hs σ H _ S fun ds Γ1 vs Hs1 H1 ⟨i, j, e, p⟩ s S1 dv => by
    subst e
    exact ⟨i, j, dvs_ints (ns := [i, j]) dv, g _ Γ1 _ Hs1 H1 p s S1 (.int _)⟩)
theorem ge_max2 {b : Expr} (calm : X.calm = true) (hx : x = "max") (hg : Gl X x) (hm : X.mg x = none) (h : GA B X [a, b] Γ fun ds Γ1 => ∃ i j : Int, ds = [.int i, .int j] ∧ φ (.int (if j > i then j else i)) Γ1)
    (he : starEach [a, b] X.env = (false, eval a X.env) :: starEach [b] X.env := by rfl) (hpl : (backTo pos (starEach [b] X.env)).any (·.1) = false := by rfl) : GE B X (.Call (.Name x p) [a, b] [] pos) Γ φ := by
  subst hx
  exact fun Hs σ H Q S g => pe_of (pe_callB (call_max2 calm) hg hm (by decide +kernel) pa_W (he := he) (hpl := hpl)) (h Hs σ H _ S fun ds Γ1 vs Hs1 H1 ⟨i, j, e, p⟩ s S1 dv => by
    subst e
    exact ⟨i, j, dvs_ints (ns := [i, j]) dv, g _ Γ1 _ Hs1 H1 p s S1 (.int _)⟩)
theorem ge_divmod {b : Expr} (hx : x = "divmod") (hg : Gl X x) (hm : X.mg x = none) (h : GA B X [a, b] Γ fun ds Γ1 => ∃ i j : Int, ds = [.int i, .int j] ∧ CDivP i j ∧ φ (.tuple [.int (i / j), .int (i % j)]) Γ1)
    (he : starEach [a, b] X.env = (false, eval a X.env) :: starEach [b] X.env := by rfl) (hpl : (backTo pos (starEach [b] X.env)).any (·.1) = false := by rfl) : GE B X (.Call (.Name x p) [a, b] [] pos) Γ φ := by
  subst hx
  exact fun Hs σ H Q S g => pe_of (pe_callB call_divmodW hg hm (by decide +kernel) pa_W (he := he) (hpl := hpl)) (h Hs σ H _ S fun ds Γ1 vs Hs1 H1 ⟨i, j, e, cd, p⟩ s S1 dv => by
    subst e
    exact ⟨i, j, dvs_ints (ns := [i, j]) dv, cd, tup_new S1 (.cons (.int _) (.cons (.int _) .nil)) fun v Hs2 H2 s2 S2 q => g _ Γ1 v Hs2 H2 p (s.trans s2) S2 q⟩)
/-! ### tuple(x), list(x), sorted(x) -/
theorem ge_tupL (hx : x = "tuple") (hg : Gl X x) (hm : X.mg x = none) (h : GQ B X true a Γ fun ds Γ1 => φ (.tuple ds) Γ1) (he : starEach [a] X.env = (false, eval a X.env) :: starEach [] X.env := by rfl) : GE B X (.Call (.Name x p) [a] [] pos) Γ φ := by
  subst hx
  exact fun Hs σ H Q S g => pe_of (pe_callTy call_tuple_of hg hm (by decide +kernel) (pa_cons pe_W pa_nil he) (he := he)) (show teW X a σ H _ from h Hs σ H _ S fun ds Γ1 b vs Hs1 H1 p s S1 hq dv =>
    ⟨b, vs, rfl, .inl ⟨hq, tup_new S1 dv fun v Hs2 H2 s2 S2 q => g _ Γ1 v Hs2 H2 p (s.trans s2) S2 q⟩⟩)
end
/-! ### parts -/
def GO (B : Bas) (X : Cx) (e : Option Expr) (Γ : List Sl) (φ : Option Int → List Sl → Prop) : Prop := ∃ t, PO X e t ∧ ∀ (Hs : Hp) (σ : L2.St) (H : Hp) (Q : Option Int → Hp → Prop), Sx B Hs σ H Γ →
  (∀ o Γ' Hs' H', φ o Γ' → Same Hs Hs' → Sx B Hs' σ H' Γ' → Q o H') → t σ H Q
theorem go_none {φ : Option Int → List Sl → Prop} (h : φ none Γ) : GO B X none Γ φ := ⟨_, po_none, fun Hs σ H Q S g => g none Γ Hs H h (Same.refl _) S⟩
theorem go_some {e : Expr} {φ : Option Int → List Sl → Prop} (h : GE B X e Γ fun d Γ1 => ∃ i : Int, d = .int i ∧ φ (some i) Γ1) : GO B X (some e) Γ φ := ⟨_, po_some pe_W, fun Hs σ H Q S g => h Hs σ H _ S fun d Γ1 v Hs1 H1 ⟨i, e, p⟩ s S1 q => by
  subst e
  cases q
  exact ⟨i, rfl, g _ Γ1 Hs1 H1 p s S1⟩⟩
def cutD (ds : List PyData) (lo hi : Option Int) : List PyData := (ds.drop (HT.sIx ds.length 0 lo)).take (HT.sIx ds.length ds.length hi - HT.sIx ds.length 0 lo)
theorem dvs_cut {H : Hp} {vs : List V} {ds : List PyData} (h : DvAll H vs ds) (lo hi : Option Int) : DvAll H (cutV vs lo hi) (cutD ds lo hi) := by
  unfold cutV cutD
  rw [h.len]
  exact dvs_take _ (dvs_drop _ h)
def SlD (d : PyData) (lo hi : Option Int) (k : PyData → Prop) : Prop := match d with
  | .list ds => k (.list (cutD ds lo hi))
  | .tuple ds => k (.tuple (cutD ds lo hi))
  | .str z => z.length ≤ sizeLine ∧ k (.str (cutS z lo hi))
  | _ => False
theorem cut_whole {ds : List PyData} {lo hi : Option Int} (h : HT.sIx ds.length 0 lo = 0 ∧ HT.sIx ds.length ds.length hi = ds.length) : cutD ds lo hi = ds := by
  unfold cutD
  rw [h.1, h.2, List.drop_zero, Nat.sub_zero, List.take_length]
@[irreducible] def toW (X : Cx) (e : Option Expr) : TO := fun σ H Q => ∀ (pins : List (Addr × Obj)) (s : Shared), Inv X pins σ H s → wpAny (model X.prog X.w) X.A (evalPart e X.env) (fun u s' => ∃ o H', Inv X pins σ H' s' ∧ IsPart u o ∧ Q o H') X.xe s
theorem toI {e : Option Expr} {σ : L2.St} {H : Hp} {Q : Option Int → Hp → Prop} (h : ∀ (pins : List (Addr × Obj)) (s : Shared), Inv X pins σ H s → wpAny (model X.prog X.w) X.A (evalPart e X.env) (fun u s' => ∃ o H', Inv X pins σ H' s' ∧ IsPart u o ∧ Q o H') X.xe s) : toW X e σ H Q := by unfold toW; exact h
theorem toE {e : Option Expr} {σ : L2.St} {H : Hp} {Q : Option Int → Hp → Prop} (h : toW X e σ H Q) : ∀ (pins : List (Addr × Obj)) (s : Shared), Inv X pins σ H s → wpAny (model X.prog X.w) X.A (evalPart e X.env) (fun u s' => ∃ o H', Inv X pins σ H' s' ∧ IsPart u o ∧ Q o H') X.xe s := by unfold toW at h; exact h
theorem po_W {e : Option Expr} : PO X e (toW X e) := ⟨fun pins s _ _ _ I h => toE h pins s I⟩
theorem po_of {e : Option Expr} {t : TO} (p : PO X e t) {σ : L2.St} {H : Hp} {Q : Option Int → Hp → Prop} (h : t σ H Q) : toW X e σ H Q := toI fun pins s I => p.run pins s σ H Q I h
theorem go_run {e : Option Expr} {φ : Option Int → List Sl → Prop} (h : GO B X e Γ φ) : ∀ (Hs : Hp) (σ : L2.St) (H : Hp) (Q : Option Int → Hp → Prop), Sx B Hs σ H Γ → (∀ o Γ' Hs' H', φ o Γ' → Same Hs Hs' → Sx B Hs' σ H' Γ' → Q o H') → toW X e σ H Q := fun Hs σ H Q S g => by
  obtain ⟨t, p, h⟩ := h
  exact po_of p (h Hs σ H Q S g)
def rSlAny (K : PySem.W.Frag) : V → Option Int → Option Int → Hp → VK → Prop := fun x lo hi H Q => rSlL K x lo hi H Q ∨ (rSlA K x lo hi H Q ∨ rSlS x lo hi H Q)
theorem ge_slice {a : Expr} {lo hi : Option Expr} {p2 : Pos} {φ : PyData → List Sl → Prop} (h : GE B X a Γ fun d Γ1 => GO B X lo Γ1 fun l Γ2 => GO B X hi Γ2 fun u Γ3 => SlD d l u fun d' => φ d' Γ3) : GE B X (.Subscript a (.Slice lo hi none p2) pos) Γ φ := fun Hs σ H Q S g =>
  pe_of (pe_slice (r := rSlAny X.K) (SlR.or sl_list (SlR.or sl_tupA sl_str)) pe_W po_W po_W) (h Hs σ H _ S fun d Γ1 v Hs1 H1 p s1 S1 q1 => go_run p Hs1 σ H1 _ S1 fun l Γ2 Hs2 H2 p2 s2 S2 => go_run p2 Hs2 σ H2 _ S2 fun u Γ3 Hs3 H3 p3 s3 S3 => by
    have q1 := (q1.mono s2).mono s3
    have s := s1.trans (s2.trans s3)
    cases q1 with
    | lst r a => exact .inl ⟨_, _, rfl, rdL (rd_up S3.sub r), lst_new S3 (dvs_cut a l u) fun v Hs4 H4 s4 S4 q => g _ Γ3 v Hs4 H4 p3 (s.trans s4) S4 q⟩
    | @tup b ys es r a =>
      refine .inr (.inl ⟨_, _, rfl, rdT (rd_up S3.sub r), fun e => ?_, fun _ => tup_new S3 (dvs_cut a l u) fun v Hs4 H4 s4 S4 q => g _ Γ3 v Hs4 H4 p3 (s.trans s4) S4 q⟩)
      rw [a.len] at e
      have p3 : φ (.tuple (cutD es l u)) Γ3 := p3
      rw [cut_whole e] at p3
      exact g _ Γ3 _ Hs3 H3 p3 s S3 (.tup r a)
    | str z => exact .inr (.inr ⟨z, rfl, p3.1, g _ Γ3 _ Hs3 H3 p3.2 s S3 (.str _)⟩)
    | _ => exact p3.elim)
/-! ### texts -/
section
variable {a b : Expr} {ap : Pos} {φ : PyData → List Sl → Prop}
/-- s.join(ys) -/
theorem ge_join (h : GE B X a Γ fun d Γ1 => ∃ z : Str, d = .str z ∧ GB B X b Γ1 fun d2 Γ2 => ∃ ys : List Str, (d2 = .list (ys.map .str) ∨ d2 = .tuple (ys.map .str)) ∧ (ys.map (·.length)).sum + ys.length * z.length ≤ 16777216 ∧ φ (.str (Txt.join z ys)) Γ2)
    (hs : starEach [b] X.env = [(false, eval b X.env)] := by rfl) (hbase : attributeBase a "join" X.env (eval a X.env) = eval a X.env := by rfl) (hline : (ap.endLine == pos.line) = true := by rfl) : GE B X (.Call (.Attribute a "join" ap) [b] [] pos) Γ φ := fun Hs σ H Q S g =>
  pe_of (pe_join pe_W pe_W hs hbase hline) (h Hs σ H _ S fun d Γ1 v Hs1 H1 ⟨z, e, p⟩ s1 S1 q1 => by
    subst e
    cases q1
    refine ⟨⟨z, rfl⟩, p Hs1 σ H1 _ S1 fun d2 Γ2 w Hs2 H2 ⟨ys, e2, hz, p2⟩ s2 S2 q2 => ?_⟩
    have fin := g _ Γ2 _ Hs2 H2 p2 (s1.trans s2) S2 (.str _)
    rcases e2 with rfl | rfl
    · cases q2 with
      | lst r a =>
        rw [dvs_strs a] at r
        exact ⟨z, _, ys, rfl, rfl, .inl (rdL r), hz, fin⟩
    · cases q2 with
      | tup r a =>
        rw [dvs_strs a] at r
        exact ⟨z, _, ys, rfl, rfl, .inr (rdT r), hz, fin⟩)
/-! ### f'..' -/
def FmtD (d : PyData) (k : Str → Prop) : Prop := match d with
  | .str z => z.length ≤ sizeLine ∧ k z
  | .int i => i.natAbs.log2 < 1920 ∧ k (toString i)
  | _ => False
/-- {e}: a text -/
theorem ge_fmt (h : GE B X a Γ fun d Γ1 => FmtD d fun z => φ (.str z) Γ1) : GE B X (.FormattedValue a (-1) none pos) Γ φ := fun Hs σ H Q S g =>
  pe_of (pe_fmt pe_W) (h Hs σ H _ S fun d Γ1 v Hs1 H1 p s1 S1 q1 => by
    cases q1 with
    | str z => exact .inl ⟨z, rfl, p.1, g _ Γ1 _ Hs1 H1 p.2 s1 S1 (.str _)⟩
    | int i => exact .inr ⟨i, rfl, p.1, g _ Γ1 _ Hs1 H1 p.2 s1 S1 (.str _)⟩
    | _ => exact p.elim)
theorem ge_joined1 (h : GE B X a Γ φ) : GE B X (.JoinedStr [a] pos) Γ φ := fun Hs σ H Q S g => pe_of (pe_joined1 pe_W) (h Hs σ H Q S g)
end
end
end Px
/-! The rules by the syntax alone: slots found by their names. -/
namespace Px
open PySem PySem.Spec PyProof.Rows L2 Tc
def idxS : List Str → Str → Option Nat
  | [], _ => none
  | y :: r, x => if y == x then some 0 else (idxS r x).map (· + 1)
theorem idxS_ok {x : Str} : ∀ {l : List Str} {i : Nat}, idxS l x = some i → l[i]? = some x
  | y :: r, i, h => by
    unfold idxS at h
    split at h
    · rename_i e
      cases h
      rw [eq_of_beq e] <;> rfl
    · cases q : idxS r x with
      | none => rw [q] at h; cases h
      | some j =>
        rw [q] at h
        cases h
        exact (idxS_ok q : r[j]? = some x)
def Sees (sc : Scope) (x : Str) : Bool := match sc.names.lookup x with
  | some .local | some .cell | some .free => true
  | _ => false
theorem sees_ok {sc : Scope} {x : Str} (h : Sees sc x = true) : Vis sc x := by
  unfold Sees at h
  split at h
  · exact .inl ‹_›
  · exact .inr (.inl ‹_›)
  · exact .inr (.inr ‹_›)
  · cases h
section
variable {B : Bas} {X : Cx} {Γ : List Sl} {E : DE} {pos : Pos} {k : Nat}
theorem name_e {i : Nat} {x : Str} {y : PyData} {φ : PyData → List Sl → Prop} (hN : idxS X.N x = some i) (hΓ : Γ[i]? = some (.d y)) (hv : Sees X.env.scope x = true) (h : φ y Γ) (hd : (x == ("__debug__" : Str)) = false := by decide) (hcd : (x == ("__classdict__" : Str)) = false := by decide) :
    GE B X (.Name x pos) Γ φ := ge_name i (idxS_ok hN) hΓ (sees_ok hv) h hd hcd
theorem name_give {i : Nat} {x : Str} {a : Addr} {ds : List PyData} {φ : PyData → List Sl → Prop} (hN : idxS X.N x = some i) (hΓ : Γ[i]? = some (.own a ds)) (hv : Sees X.env.scope x = true) (h : φ (.list ds) (Γ.set i (.d (.list ds)))) (hd : (x == ("__debug__" : Str)) = false := by decide) (hcd : (x == ("__classdict__" : Str)) = false := by decide) :
    GE B X (.Name x pos) Γ φ := ge_give i (idxS_ok hN) hΓ (sees_ok hv) h hd hcd
theorem name_q {i : Nat} {x : Str} {a : Addr} {ds : List PyData} {φ : List PyData → List Sl → Prop} (hN : idxS X.N x = some i) (hΓ : Γ[i]? = some (.own a ds)) (hv : Sees X.env.scope x = true) (h : φ ds Γ) (hd : (x == ("__debug__" : Str)) = false := by decide) (hcd : (x == ("__classdict__" : Str)) = false := by decide) :
    GQ B X true (.Name x pos) Γ φ := gq_own i (idxS_ok hN) hΓ (sees_ok hv) h hd hcd
theorem set_e (c : Bod X k) {i : Nat} {x : Str} {e : Expr} {pos' : Pos} (hi : idxS X.N x = some i) (hx : X.env.scope.names.lookup x = some .local) (h : GE B X e Γ fun d Γ1 => Nat.ble (i + 1) Γ1.length = true ∧ E.nx (Γ1.set i (.d d)))
    (hs : swapsWith e (some (.Name x pos')) pos.line X.env = pure false := by rfl) : G1 B X (.Assign [.Name x pos'] e pos) Γ E := g1_set c i (idxS_ok hi) (.inl hx) (fun Hs σ H Q S g => h Hs σ H Q S fun d Γ' v Hs' H' p => g d Γ' v Hs' H' ⟨Nat.le_of_ble_eq_true p.1, p.2⟩) hs (.inr hx)
theorem set_cell (c : Bod X k) {i : Nat} {x : Str} {e : Expr} {pos' : Pos} (hi : idxS X.N x = some i) (hx : X.env.scope.names.lookup x = some .cell) (h : GE B X e Γ fun d Γ1 => Nat.ble (i + 1) Γ1.length = true ∧ E.nx (Γ1.set i (.d d)))
    (hs : swapsWith e (some (.Name x pos')) pos.line X.env = pure false := by rfl) (hf : X.fn x = true := by rfl) : G1 B X (.Assign [.Name x pos'] e pos) Γ E := g1_set c i (idxS_ok hi) (.inr hx) (fun Hs σ H Q S g => h Hs σ H Q S fun d Γ' v Hs' H' p => g d Γ' v Hs' H' ⟨Nat.le_of_ble_eq_true p.1, p.2⟩) hs (.inl hf)
theorem set_l (c : Bod X k) {i : Nat} {x : Str} {e : Expr} {pos' : Pos} (hi : idxS X.N x = some i) (hx : X.env.scope.names.lookup x = some .local) (h : GF B X e Γ fun ds Γ1 => Nat.ble (i + 1) Γ1.length = true ∧ ∀ a, Alone Γ1 a → E.nx (Γ1.set i (.own a ds)))
    (hs : swapsWith e (some (.Name x pos')) pos.line X.env = pure false := by rfl) : G1 B X (.Assign [.Name x pos'] e pos) Γ E := g1_setL c i (idxS_ok hi) (.inl hx) (fun Hs σ H Q S g => h Hs σ H Q S fun d Γ' v Hs' H' vs p => g d Γ' v Hs' H' vs ⟨Nat.le_of_ble_eq_true p.1, p.2⟩) hs (.inr hx)
theorem set_lc (c : Bod X k) {i : Nat} {x : Str} {e : Expr} {pos' : Pos} (hi : idxS X.N x = some i) (hx : X.env.scope.names.lookup x = some .cell) (h : GF B X e Γ fun ds Γ1 => Nat.ble (i + 1) Γ1.length = true ∧ ∀ a, Alone Γ1 a → E.nx (Γ1.set i (.own a ds)))
    (hs : swapsWith e (some (.Name x pos')) pos.line X.env = pure false := by rfl) (hf : X.fn x = true := by rfl) : G1 B X (.Assign [.Name x pos'] e pos) Γ E := g1_setL c i (idxS_ok hi) (.inr hx) (fun Hs σ H Q S g => h Hs σ H Q S fun d Γ' v Hs' H' vs p => g d Γ' v Hs' H' vs ⟨Nat.le_of_ble_eq_true p.1, p.2⟩) hs (.inl hf)
end
/-! ### what the data say -/
section
variable {k : PyData → Prop} {q : Bool → Prop} {n : Int → Prop} {i j : Int} {x y : Str} {xs ys : List PyData}
theorem add_ii (h : k (.int (i + j))) : AddD (.int i) (.int j) k := h
theorem add_tt (l : xs.length + ys.length ≤ sizeLine) (h : k (.tuple (xs ++ ys))) : AddD (.tuple xs) (.tuple ys) k := ⟨l, h⟩
theorem add_ll (l : xs.length + ys.length ≤ sizeLine) (h : k (.list (xs ++ ys))) : AddD (.list xs) (.list ys) k := ⟨l, h⟩
theorem int0_i {f : Int → Int → Int} (h : k (.int (f i j))) : Int0 f (.int i) (.int j) k := h
theorem mul_ii (c : MulOk i j) (h : k (.int (i * j))) : MulD (.int i) (.int j) k := ⟨c, h⟩
theorem ord_i {p : Int → Int → Bool} (h : q (p i j)) : OrdD p (.int i) (.int j) q := h
theorem isN_i {d : PyData} (h : q (isN d)) : IsND d .none q := h
theorem notN_i {d : PyData} (h : q (!isN d)) : NotND d .none q := h
theorem eq_p {d1 d2 : PyData} (p : plain2 d1 d2 = true) (h : q (PyData.eqv d1 d2)) : EqD d1 d2 q := ⟨.inl p, h⟩
theorem len_l (h : n xs.length) : LenD (.list xs) n := h
theorem len_t (h : n xs.length) : LenD (.tuple xs) n := h
theorem ix_l {d : PyData} (e : atD xs i = some d) (h : k d) : IxD (.list xs) (.int i) k := ⟨d, e, h⟩
theorem ix_t {d : PyData} (e : atD xs i = some d) (h : k d) : IxD (.tuple xs) (.int i) k := ⟨d, e, h⟩
theorem seq_l {K : List PyData → Prop} (h : K xs) : SeqD (.list xs) K := h
theorem seq_t {K : List PyData → Prop} (h : K xs) : SeqD (.tuple xs) K := h
theorem intf_i (h : k (.int i)) : IntF (.int i) k := h
theorem sl_l {lo hi : Option Int} (h : k (.list (cutD xs lo hi))) : SlD (.list xs) lo hi k := h
end
theorem len_ok {α : Type} {l : List α} (h : Nat.ble l.length 1000 = true) : l.length ≤ sizeLine := Nat.le_trans (Nat.le_of_ble_eq_true h) (by decide)
theorem isD_int (d : PyData) : isD "int" d = (match d with | .int _ => true | .bool _ => true | _ => false) := ty_int d
theorem isD_bool (d : PyData) : isD "bool" d = (match d with | .bool _ => true | _ => false) := ty_bool d
theorem isD_tuple (d : PyData) : isD "tuple" d = (match d with | .tuple _ => true | _ => false) := ty_tuple d
end Px
namespace Px
open PySem PySem.Spec PyProof.Rows L2 Tc
/-- the built-ins that are called are Python's own -/
structure Gls (mg : Str → Option Value) : Prop where
  len : mg "len" = none
  int : mg "int" = none
  bool : mg "bool" = none
  str : mg "str" = none
  tuple : mg "tuple" = none
  list : mg "list" = none
  isinstance : mg "isinstance" = none
  abs : mg "abs" = none
  divmod : mg "divmod" = none
  range : mg "range" = none
  repr : mg "repr" = none
  min : mg "min" = none
  max : mg "max" = none
  all : mg "all" = none
  any : mg "any" = none
  sum : mg "sum" = none
  sorted : mg "sorted" = none
  zip : mg "zip" = none
  enumerate : mg "enumerate" = none
  reversed : mg "reversed" = none
  set : mg "set" = none
/-- the same surroundings -/
structure SameX (X : Cx) (P : Program) (w : World) (K : PySem.W.Frag) (mg : Str → Option Value) (base : Heap) : Prop where
  p : X.prog = P
  w : X.w = w
  k : X.K = K
  m : X.mg = mg
  b : X.base = base
section
variable {B : Bas} {X : Cx} {Γ : List Sl} {E : DE} {pos : Pos} {k j n : Nat} {P : Program} {w : World} {K : PySem.W.Frag} {mg : Str → Option Value} {base : Heap}
theorem num_e {x : Str} {n : Int} {φ : PyData → List Sl → Prop} (hX : SameX X P w K mg base) (hm : ∃ t, mg x = some (.int n t)) (hg : Gl X x) (h : φ (.int n) Γ) (hd : (x == ("__debug__" : Str)) = false) : GE B X (.Name x pos) Γ φ := ge_num (by rw [hX.m]; exact hm) hg h hd
theorem call_e {x : Str} {p : Pos} {e : Expr} {es : List Expr} {ps : List Str} {pre : List PyData → Prop} {f : List PyData → Out} {ψ : Addr → PyData → List Sl → Prop} {φ : PyData → List Sl → Prop} (hX : SameX X P w K mg base) (F : Call P w K mg base (L2.CX P w) j x ps (spF n pre f)) (c : Cxt X k) (hj : Nat.ble j k = true) (hg : Gl X x) (ex : Exc B X ψ)
    (h : GA B X (e :: es) Γ fun ds Γ1 => ds.length = n ∧ pre ds ∧ (f ds).to (fun d => φ d Γ1) (fun C d => ψ C d Γ1)) (hdb : (x == ("__debug__" : Str)) = false)
    (he : starEach (e :: es) X.env = (false, eval e X.env) :: starEach es X.env) (hpl : (backTo pos (starEach es X.env)).any (·.1) = false) : GE B X (.Call (.Name x p) (e :: es) [] pos) Γ φ := by
  obtain ⟨rfl, rfl, rfl, rfl, rfl⟩ := hX
  exact ge_call F c (Nat.le_of_ble_eq_true hj) hg ex h hdb he hpl
theorem pail_e {i : Nat} {x y : Str} {p py : Pos} {es : List Expr} {ps : List Str} {a : Addr} {ms0 : List PyData} {pre : List PyData → List PyData → Prop} {R : List PyData → List PyData → Out → List PyData → Prop} {ψ : Addr → PyData → List Sl → Prop} {φ : PyData → List Sl → Prop} (hX : SameX X P w K mg base) (F : Call P w K mg base (L2.CX P w) j x ps (spP n pre R)) (c : Cxt X k) (hj : Nat.ble j k = true) (hg : Gl X x) (ex : Exc B X ψ)
    (hN : idxS X.N y = some i) (hv : Sees X.env.scope y = true) (hΓ : Γ[i]? = some (.own a ms0))
    (h : GA B X es Γ fun ds Γ1 => ∃ ms, Γ1[i]? = some (.own a ms) ∧ ds.length = n ∧ pre ms ds ∧ ∀ o ms', R ms ds o ms' → o.to (fun d => φ d (Γ1.set i (.own a ms'))) (fun C d => ψ C d (Γ1.set i (.own a ms')))) (hdb : (x == ("__debug__" : Str)) = false)
    (hd : (y == ("__debug__" : Str)) = false) (hcd : (y == ("__classdict__" : Str)) = false)
    (he : starEach (.Name y py :: es) X.env = (false, eval (.Name y py) X.env) :: starEach es X.env) (hpl : (backTo pos (starEach es X.env)).any (·.1) = false) : GE B X (.Call (.Name x p) (.Name y py :: es) [] pos) Γ φ := by
  obtain ⟨rfl, rfl, rfl, rfl, rfl⟩ := hX
  exact ge_pail i F c (Nat.le_of_ble_eq_true hj) hg ex (idxS_ok hN) (sees_ok hv) hΓ h hdb hd hcd he hpl
end
end Px
namespace Px
open PySem PySem.Spec PyProof.Rows L2 Tc
section
variable {B : Bas} {X : Cx} {Γ : List Sl} {pos : Pos}
theorem isi_int {x y : Str} {p py : Pos} {a : Expr} {φ : PyData → List Sl → Prop} (hx : x = "isinstance") (hy : y = "int") (hg : Gl X x) (hm : X.mg x = none) (gy : Gl X y) (my : X.mg y = none) (he : starEach [a, .Name y py] X.env = (false, eval a X.env) :: starEach [.Name y py] X.env) (he2 : starEach [.Name y py] X.env = (false, eval (.Name y py) X.env) :: starEach [] X.env) (hpl : (backTo pos (starEach [.Name y py] X.env)).any (·.1) = false) (h : GB B X a Γ fun d Γ1 => notI d = true ∧ φ (.bool (isD "int" d)) Γ1) : GE B X (.Call (.Name x p) [a, .Name y py] [] pos) Γ φ := by
  subst hy
  exact ge_isi (T := "int") hx hg hm gy my (by decide +kernel) (by decide) h (by decide) (by decide) he he2 hpl
theorem isi_bool {x y : Str} {p py : Pos} {a : Expr} {φ : PyData → List Sl → Prop} (hx : x = "isinstance") (hy : y = "bool") (hg : Gl X x) (hm : X.mg x = none) (gy : Gl X y) (my : X.mg y = none) (he : starEach [a, .Name y py] X.env = (false, eval a X.env) :: starEach [.Name y py] X.env) (he2 : starEach [.Name y py] X.env = (false, eval (.Name y py) X.env) :: starEach [] X.env) (hpl : (backTo pos (starEach [.Name y py] X.env)).any (·.1) = false) (h : GB B X a Γ fun d Γ1 => notI d = true ∧ φ (.bool (isD "bool" d)) Γ1) : GE B X (.Call (.Name x p) [a, .Name y py] [] pos) Γ φ := by
  subst hy
  exact ge_isi (T := "bool") hx hg hm gy my (by decide +kernel) (by decide) h (by decide) (by decide) he he2 hpl
theorem isi_tuple {x y : Str} {p py : Pos} {a : Expr} {φ : PyData → List Sl → Prop} (hx : x = "isinstance") (hy : y = "tuple") (hg : Gl X x) (hm : X.mg x = none) (gy : Gl X y) (my : X.mg y = none) (he : starEach [a, .Name y py] X.env = (false, eval a X.env) :: starEach [.Name y py] X.env) (he2 : starEach [.Name y py] X.env = (false, eval (.Name y py) X.env) :: starEach [] X.env) (hpl : (backTo pos (starEach [.Name y py] X.env)).any (·.1) = false) (h : GB B X a Γ fun d Γ1 => notI d = true ∧ φ (.bool (isD "tuple" d)) Γ1) : GE B X (.Call (.Name x p) [a, .Name y py] [] pos) Γ φ := by
  subst hy
  exact ge_isi (T := "tuple") hx hg hm gy my (by decide +kernel) (by decide) h (by decide) (by decide) he he2 hpl
theorem gt_lele {a b c : Expr} {φ : Bool → List Sl → Prop} (hm : lastMarks [.LtE, .LtE] [b, c] = false) (h : GE B X a Γ fun d1 Γ1 => GE B X b Γ1 fun d2 Γ2 => LeD d1 d2 fun t => if t = true then GE B X c Γ2 fun d3 Γ3 => LeD d2 d3 fun u => φ u Γ3 else φ false Γ2) : GT B X (.Compare a [.LtE, .LtE] [b, c] pos) Γ φ := gt_chain op_le op_le LeD LeD sem_ord sem_ord h hm
end
end Px
/-! Sequences that stay: two walked at once; tuples that are written at a module's top. -/
namespace Px
open PySem PySem.Spec PyProof.Rows L2 Tc Tz
/-- while the slots keep what is asked, the items stand there -/
def Pers (K : PySem.W.Frag) (keep : List Sl → Prop) (k : Bool) (Hs1 : Hp) (a : Addr) (ds : List PyData) : Prop := ∀ (B : Bas) (Hs : Hp) (σ : L2.St) (H : Hp) (Γ : List Sl), keep Γ → Same Hs1 Hs → Sx B Hs σ H Γ → ∃ vs, SqX k K H a vs ∧ DvAll Hs vs ds
theorem Pers.mono {K : PySem.W.Frag} {keep : List Sl → Prop} {k : Bool} {Hs1 Hs2 : Hp} {a : Addr} {ds : List PyData} (p : Pers K keep k Hs1 a ds) (s : Same Hs1 Hs2) : Pers K keep k Hs2 a ds := fun B Hs σ H Γ kp s2 S => p B Hs σ H Γ kp (s.trans s2) S
def GS (B : Bas) (X : Cx) (k : Bool) (e : Expr) (Γ : List Sl) (φ : List PyData → (List Sl → Prop) → List Sl → Prop) : Prop := ∀ (Hs : Hp) (σ : L2.St) (H : Hp) (Q : VK), Sx B Hs σ H Γ →
  (∀ ds keep Γ' a Hs' H', φ ds keep Γ' → Same Hs Hs' → Sx B Hs' σ H' Γ' → Pers X.K keep k Hs' a ds → Q (.ref a) H') → teW X e σ H Q
/-- a tuple of plain things that is written in the program -/
structure Writ (K : PySem.W.Frag) (mg : Str → Option Value) (x : Str) (a : Addr) (ds : List PyData) : Prop where
  gm : mg x = some (.ref a)
  sq : ∃ vs, (∀ H, SqT K H a vs) ∧ ∀ H, DvAll H vs ds
section
variable {B : Bas} {X : Cx} {Γ : List Sl} {pos : Pos} {E : DE} {P : Program} {w : World} {K : PySem.W.Frag} {mg : Str → Option Value} {base : Heap} {tg : Expr}
theorem gs_list {e : Expr} {φ : List PyData → (List Sl → Prop) → List Sl → Prop} (h : GE B X e Γ fun d Γ1 => ∃ ds, d = .list ds ∧ φ ds (fun _ => True) Γ1) : GS B X true e Γ φ := fun Hs σ H Q S g => h Hs σ H Q S fun d Γ1 v Hs1 H1 ⟨ds, e, p⟩ s S1 q => by
  subst e
  cases q with
  | lst r a => exact g ds _ Γ1 _ Hs1 H1 p s S1 fun B2 Hs2 σ2 H2 Γ2 _ s2 S2 => ⟨_, rdL (rd_up S2.sub (rd_up s2 r)), a.mono s2⟩
theorem gs_tup {e : Expr} {φ : List PyData → (List Sl → Prop) → List Sl → Prop} (h : GE B X e Γ fun d Γ1 => ∃ ds, d = .tuple ds ∧ φ ds (fun _ => True) Γ1) : GS B X false e Γ φ := fun Hs σ H Q S g => h Hs σ H Q S fun d Γ1 v Hs1 H1 ⟨ds, e, p⟩ s S1 q => by
  subst e
  cases q with
  | tup r a => exact g ds _ Γ1 _ Hs1 H1 p s S1 fun B2 Hs2 σ2 H2 Γ2 _ s2 S2 => ⟨_, rdT (rd_up S2.sub (rd_up s2 r)), a.mono s2⟩
theorem gs_writ {x : Str} {a : Addr} {ds : List PyData} {φ : List PyData → (List Sl → Prop) → List Sl → Prop} (hX : SameX X P w K mg base) (W : Writ K mg x a ds) (hg : Gl X x) (h : φ ds (fun _ => True) Γ) (hd : (x == ("__debug__" : Str)) = false) : GS B X false (.Name x pos) Γ φ := fun Hs σ H Q S g => by
  obtain ⟨rfl, rfl, rfl, rfl, rfl⟩ := hX
  obtain ⟨vs, sq, dv⟩ := W.sq
  exact pe_of (pe_glob (v := .ref a) hg W.gm rfl hd) (g ds _ Γ a Hs H h (Same.refl _) S fun B2 Hs2 σ2 H2 Γ2 _ _ _ => ⟨vs, sq H2, dv Hs2⟩)
theorem pers_q {k : Bool} {Hs H : Hp} {σ : L2.St} {keep : List Sl → Prop} {a : Addr} {ds : List PyData} (p : Pers X.K keep k Hs a ds) (S : Sx B Hs σ H Γ) (kp : keep Γ) : ∃ vs, SqX k X.K H a vs ∧ DvAll Hs vs ds := p B Hs σ H Γ kp (Same.refl _) S
/-- a sequence that stays, looked at -/
theorem gq_ofS {k : Bool} {e : Expr} {φ : List PyData → List Sl → Prop} (h : GS B X k e Γ fun ds keep Γ1 => keep Γ1 ∧ φ ds Γ1) : GQ B X k e Γ φ := fun Hs σ H Q S g => h Hs σ H Q S fun ds keep Γ1 a Hs1 H1 ⟨kp, p⟩ s S1 pr => by
  obtain ⟨vs, q, d⟩ := pers_q pr S1 kp
  refine g ds Γ1 a vs Hs1 H1 p s S1 ?_ d
  cases k with
  | true => exact q
  | false => exact q
/-! ### zip -/
end
end Px
/-! Comprehensions that only look; further operators. -/
namespace Px
open PySem PySem.Spec PyProof.Rows L2 Tc Tz
theorem clr_clr (Γ : List Sl) (vs : List Nat) : clr (clr Γ vs) vs = clr Γ vs := by
  refine List.ext_getElem? fun j => ?_
  by_cases e : j ∈ vs
  · by_cases l : j < Γ.length
    · have h1 : ∃ s, (clr (clr Γ vs) vs)[j]? = some s := ⟨_, List.getElem?_eq_getElem (by rw [clr_len, clr_len]; exact l)⟩
      have h2 : ∃ s, (clr Γ vs)[j]? = some s := ⟨_, List.getElem?_eq_getElem (by rw [clr_len]; exact l)⟩
      obtain ⟨s, h1⟩ := h1
      obtain ⟨t, h2⟩ := h2
      rw [h1, h2, clr_in e h1, clr_in e h2]
    · rw [List.getElem?_eq_none (by rw [clr_len, clr_len]; omega), List.getElem?_eq_none (by rw [clr_len]; omega)]
  · exact clr_out e
section
variable {B : Bas} {X : Cx} {Γ : List Sl} {pos : Pos} {k : Nat}
/-- [elt for t in iter if ..] that leaves the slots as they are: p tells which items, F what of them -/
theorem gf_look {elt t iter : Expr} {ifs : List Expr} {scope : Scope} {own : List (Str × Nat)} {φ : List PyData → List Sl → Prop} (calm : X.calm = true) (nd : X.N.Nodup) (ok : blkC X.N X.env.scope scope own = true)
    (hs : ∀ x, foldedSetIterable iter X.env x = pure x)
    (h : GI B X t iter Γ fun n f keep Γ1 => keep (clr Γ1 (own.map (·.2))) ∧ n ≤ sizeLine ∧ ∃ (p : Nat → Bool) (F : Nat → PyData),
      (∀ i, i < n → ∀ B', Blk X scope fun Y => GC B' Y (own.map (·.2)) t (f i) (clr Γ1 (own.map (·.2))) fun Γ2 => Blk X scope fun Y => GP B' Y ifs Γ2 fun b Γ3 => b = p i ∧ if b = true then Blk X scope fun Y => GE B' Y elt Γ3 fun d Γ4 => d = F i ∧ clr Γ4 (own.map (·.2)) = clr Γ1 (own.map (·.2)) else clr Γ3 (own.map (·.2)) = clr Γ1 (own.map (·.2))) ∧
      φ (((List.range n).filter p).map F) (clr Γ1 (own.map (·.2)))) : GF B X (.ListComp elt [⟨t, iter, ifs, 0⟩] scope pos) Γ φ := by
  refine gf_lc calm nd (blkOk_by ok) (hs := hs) fun Hs σ H R S g => h Hs σ H R S fun n f keep Γ1 J Hs1 H1 ⟨kp, hn, p, F, step, fin⟩ s S1 it => g n f keep Γ1 J Hs1 H1 ?_ s S1 it
  refine ⟨fun i acc Γ' => Γ' = clr Γ1 (own.map (·.2)) ∧ acc = ((List.range i).filter p).map F, ⟨rfl, rfl⟩, fun i acc Γ' _ ⟨e, _⟩ => e ▸ kp, ?_, ?_⟩
  · rintro i acc Γ' hi ⟨rfl, rfl⟩ B' s0 H0 C cl fp
    rw [clr_clr]
    intro Hs2 σ2 H2 v Q S2 dv g2
    refine step i hi B' s0 H0 C cl fp Hs2 σ2 H2 v Q S2 dv fun Γ2 Hs3 σ3 H3 p2 s3 S3 w3 => g2 Γ2 Hs3 σ3 H3 (fun s0 H0 C cl fp => ?_) s3 S3 w3
    intro Hs4 σ4 H4 Q4 S4 g4
    refine p2 s0 H0 C cl fp Hs4 σ4 H4 Q4 S4 fun b Γ3 Hs5 H5 ⟨eb, p3⟩ s5 S5 => g4 b Γ3 Hs5 H5 ?_ s5 S5
    have len : (((List.range i).filter p).map F).length < sizeLine := by
      rw [List.length_map]
      exact Nat.lt_of_le_of_lt (List.length_filter_le _ _) (by rw [List.length_range]; omega)
    cases b with
    | false =>
      refine iteF ⟨p3, ?_⟩
      rw [List.range_succ, List.filter_append, List.map_append, show [i].filter p = [] by simp [← eb]]
      simp
    | true =>
      have p3 : Blk X scope fun Y => GE B' Y elt Γ3 fun d Γ4 => d = F i ∧ clr Γ4 (own.map (·.2)) = clr Γ1 (own.map (·.2)) := p3
      refine iteT fun s0 H0 C cl fp Hs6 σ6 H6 Q6 S6 g6 => p3 s0 H0 C cl fp Hs6 σ6 H6 Q6 S6 fun d Γ4 v7 Hs7 H7 ⟨ed, ec⟩ s7 S7 q7 => g6 d Γ4 v7 Hs7 H7 ⟨len, ec, ?_⟩ s7 S7 q7
      rw [List.range_succ, List.filter_append, List.map_append, show [i].filter p = [i] by simp [← eb], ed]
      rfl
  · rintro acc Γ' ⟨rfl, rfl⟩
    exact fin
end
section
variable {B : Bas} {X : Cx} {Γ : List Sl} {pos : Pos} {k : Nat} {a b : Expr} {φ : PyData → List Sl → Prop}
theorem ge_neg (h : GE B X a Γ fun d Γ1 => ∃ i : Int, d = .int i ∧ φ (.int (-i)) Γ1) : GE B X (.UnaryOp .USub a pos) Γ φ := fun Hs σ H Q S g =>
  pe_of (pe_un un_neg pe_W) (h Hs σ H _ S fun d Γ1 v Hs1 H1 ⟨i, e, p⟩ s S1 q => by
    subst e
    cases q
    exact ⟨i, rfl, g _ Γ1 _ Hs1 H1 p s S1 (.int _)⟩)
/-- the length of a sequence that stays -/
theorem ge_lenQ (kq : Bool) {x : Str} {p : Pos} (hx : x = "len") (hg : Gl X x) (hm : X.mg x = none) (he : starEach [a] X.env = (false, eval a X.env) :: starEach [] X.env) (h : GQ B X kq a Γ fun ds Γ1 => φ (.int ds.length) Γ1) : GE B X (.Call (.Name x p) [a] [] pos) Γ φ := by
  subst hx
  intro Hs σ H Q S g
  refine pe_of (pe_callB call_len hg hm (by decide +kernel) (pa_cons pe_W pa_nil he) (he := he)) (show teW X a σ H _ from h Hs σ H _ S fun ds Γ1 c vs Hs1 H1 p s S1 hq dv => ?_)
  show ∃ x n, [V.ref c] = [x] ∧ _
  refine ⟨_, vs.length, rfl, ?_, by rw [dv.len]; exact g _ Γ1 _ Hs1 H1 p s S1 (.int _)⟩
  cases kq with
  | true => exact .inl ⟨vs, hq, rfl⟩
  | false => exact .inr ⟨vs, hq, rfl⟩
end
end Px
/-! Small steps on data, for the automatic run. -/
namespace Px
open PySem PySem.Spec PyProof.Rows L2 Tc
theorem to_ok {d : PyData} {a : PyData → Prop} {b : Addr → PyData → Prop} (h : a d) : (Out.ok d).to a b := h
theorem ite_t {c a b : Prop} {i : Decidable c} (hc : c) (h : a) : @ite Prop c i a b := by
  rw [if_pos hc]
  exact h
theorem ite_f {c a b : Prop} {i : Decidable c} (hc : ¬c) (h : b) : @ite Prop c i a b := by
  rw [if_neg hc]
  exact h
theorem yes_nf : (!false) = true := rfl
theorem no_nt : ¬((!true) = true) := fun e => Bool.noConfusion e
theorem no_ft : ¬(false = true) := fun e => Bool.noConfusion e
theorem eqv_int (i j : Int) : PyData.eqv (.int i) (.int j) = decide (i = j) := by
  first | rfl | simp [PyData.eqv]
theorem eqv_str (x y : Str) : PyData.eqv (.str x) (.str y) = decide (x = y) := by
  first | rfl | simp [PyData.eqv]
theorem all_map {ds : List PyData} {g : PyData → Bool} {k : PyData → Prop} (h : k (.bool (ds.all g))) : AllD (.list (ds.map fun d => .bool (g d))) k := by
  refine ⟨ds.map g, by rw [List.map_map] <;> rfl, ?_⟩
  rw [List.all_map]
  exact h
def asI : PyData → Int
  | .int i => i
  | _ => 0
def isI : PyData → Bool
  | .int _ => true
  | _ => false
theorem ints_of : ∀ {ds : List PyData}, ds.all isI = true → ds = (ds.map asI).map .int
  | [], _ => rfl
  | d :: ds, h => by
    rw [List.all_cons] at h
    obtain ⟨a, b⟩ := (Bool.and_eq_true _ _).mp h
    cases d with
    | int i => exact congrArg (PyData.int i :: ·) (ints_of b)
    | _ => cases a
theorem sum_tup {ds : List PyData} {k : PyData → Prop} (a : ds.all isI = true) (h : k (.int (ds.map asI).sum)) : SumD (.tuple ds) k := ⟨ds.map asI, .inr (congrArg PyData.tuple (ints_of a)), h⟩
theorem sum_lst {ds : List PyData} {k : PyData → Prop} (a : ds.all isI = true) (h : k (.int (ds.map asI).sum)) : SumD (.list ds) k := ⟨ds.map asI, .inl (congrArg PyData.list (ints_of a)), h⟩
def LocB (sc : Scope) (x : Str) : Bool := match sc.names.lookup x with
  | some .local | some .cell => true
  | _ => false
theorem locB_ok {sc : Scope} {x : Str} (h : LocB sc x = true) : Loc sc x := by
  unfold LocB at h
  split at h
  · exact .inl ‹_›
  · exact .inr ‹_›
  · cases h
theorem Cxt.blk {X : Cx} {k : Nat} (c : Cxt X k) (scope : Scope) (s : Shared) (H : Hp) (C : Addr) (cl : List (Str × Addr)) (fp : List Addr) : Cxt (blkX X scope s H C cl fp) k := ⟨c.room, c.gd, c.sm⟩
/-- the block's own names, with their slots -/
def ownS (N : List Str) (sc : Scope) : List (Str × Nat) := sc.names.filterMap fun e => match e.2 with
  | .local | .cell => (idxS N e.1).map fun i => (e.1, i)
  | _ => none
section
variable {B : Bas} {X : Cx} {Γ : List Sl} {pos : Pos} {k : Nat} {vs : List Nat}
/-- a comprehension's name is set -/
theorem gc_n {N : List Str} (nd : N.Nodup) (eN : X.N = N) {i : Nat} {x : Str} {d : PyData} {φ : List Sl → Prop} (hi : idxS X.N x = some i) (hx : LocB X.env.scope x = true) (hf : X.fn x = true ∨ X.env.scope.names.lookup x = some .local) (hm : vs.contains i = true)
    (h : Nat.ble (i + 1) Γ.length = true ∧ φ (Γ.set i (.d d))) : GC B X vs (.Name x pos) d Γ φ :=
  gc_name (eN ▸ nd) i (idxS_ok hi) (locB_ok hx) (List.contains_iff_mem.mp hm) ⟨Nat.le_of_ble_eq_true h.1, h.2⟩ hf
theorem gcs_n {N : List Str} (nd : N.Nodup) (eN : X.N = N) {i : Nat} {x : Str} {p : Pos} {d : PyData} {ts : List Expr} {ds : List PyData} {φ : List Sl → Prop} (hi : idxS X.N x = some i) (hx : LocB X.env.scope x = true) (hf : X.fn x = true ∨ X.env.scope.names.lookup x = some .local) (hm : vs.contains i = true)
    (h : Nat.ble (i + 1) Γ.length = true ∧ GCs B X vs ts ds (Γ.set i (.d d)) φ) (hs : (assignEach (.Name x p :: ts) X.env).map (·.2) = assign (.Name x p) X.env :: (assignEach ts X.env).map (·.2)) : GCs B X vs (.Name x p :: ts) (d :: ds) Γ φ :=
  gcs_cons _ (gc_n nd eN hi hx hf hm ⟨h.1, rfl⟩) h.2 hs
theorem gc_t (calm : X.calm = true) {ts : List Expr} {n1 : Nat} {ds : List PyData} {φ : List Sl → Prop} {n : Nat} (hn : (assignEach ts X.env).length = n) (hl : ds.length = n) (hst : (assignEach ts X.env).findIdx? (·.1) = none) (h : GCs B X vs ts ds Γ φ) : GC B X vs (.Tuple ts n1 pos) (.tuple ds) Γ φ := gc_tup calm h hn hl hst
theorem gf_lk {N : List Str} {elt t iter : Expr} {ifs : List Expr} {scope : Scope} {φ : List PyData → List Sl → Prop} (calm : X.calm = true) (nd : N.Nodup) (eN : X.N = N) {own : List (Str × Nat)} (eo : ownS N scope = own) (ok : blkC N X.env.scope scope own = true)
    (hs : ∀ x, foldedSetIterable iter X.env x = pure x)
    (h : GI B X t iter Γ fun n f keep Γ1 => keep (clr Γ1 (own.map (·.2))) ∧ n ≤ sizeLine ∧ ∃ (p : Nat → Bool) (F : Nat → PyData),
      (∀ i, i < n → ∀ B', Blk X scope fun Y => GC B' Y (own.map (·.2)) t (f i) (clr Γ1 (own.map (·.2))) fun Γ2 => Blk X scope fun Y => GP B' Y ifs Γ2 fun b Γ3 => b = p i ∧ if b = true then Blk X scope fun Y => GE B' Y elt Γ3 fun d Γ4 => d = F i ∧ clr Γ4 (own.map (·.2)) = clr Γ1 (own.map (·.2)) else clr Γ3 (own.map (·.2)) = clr Γ1 (own.map (·.2))) ∧
      φ (((List.range n).filter p).map F) (clr Γ1 (own.map (·.2)))) : GF B X (.ListComp elt [⟨t, iter, ifs, 0⟩] scope pos) Γ φ := gf_look calm (eN ▸ nd) (eN.symm ▸ ok) hs h
theorem len_writ {P : Program} {w : World} {K : PySem.W.Frag} {mg : Str → Option Value} {base : Heap} {x f : Str} {p px : Pos} {a : Addr} {ds : List PyData} {φ : PyData → List Sl → Prop} (hX : SameX X P w K mg base) (W : Writ K mg x a ds) (hx : f = "len") (hg : Gl X f) (hm : X.mg f = none) (hg2 : Gl X x) (h : φ (.int ds.length) Γ) (hd : (x == ("__debug__" : Str)) = false)
    (he : starEach [.Name x px] X.env = (false, eval (.Name x px) X.env) :: starEach [] X.env) : GE B X (.Call (.Name f p) [.Name x px] [] pos) Γ φ :=
  ge_lenQ false hx hg hm he (gq_ofS (gs_writ hX W hg2 ⟨trivial, h⟩ hd))
end
end Px
/-! name = [..] -/
namespace Px
open PySem PySem.Spec PyProof.Rows L2 Tc
section
variable {B : Bas} {X : Cx} {Γ : List Sl} {pos : Pos} {k : Nat}
theorem lc_t {elt t iter : Expr} {ifs : List Expr} {scope : Scope} {own : List (Str × Nat)} {φ : List PyData → List Sl → Prop} 
    (h : GI B X t iter Γ fun n f keep Γ1 => ∃ I : Nat → List PyData → List Sl → Prop, I 0 [] (clr Γ1 (own.map (·.2))) ∧ (∀ i acc Γ, i ≤ n → I i acc Γ → keep Γ) ∧
      (∀ i acc Γ, i < n → I i acc Γ → ∀ B', Blk X scope fun Y => GC B' Y (own.map (·.2)) t (f i) (clr Γ (own.map (·.2))) fun Γ2 => Blk X scope fun Y => GP B' Y ifs Γ2 fun b Γ3 => if b = true then Blk X scope fun Y => GE B' Y elt Γ3 fun d Γ4 => acc.length < sizeLine ∧ I (i + 1) (acc ++ [d]) (clr Γ4 (own.map (·.2))) else I (i + 1) acc (clr Γ3 (own.map (·.2)))) ∧
      ∀ acc Γ, I n acc Γ → φ acc Γ)
    {Hs : Hp} {σ : L2.St} {H : Hp} {Q : VK} (S : Sx B Hs σ H Γ) (g : ∀ ds Γ' a vs Hs' H', φ ds Γ' → Same Hs Hs' → Sx B Hs' σ H' Γ' → B.fr a = none → Hs' a = none → Alone Γ' a → H' a = some (.lst vs) → DvAll Hs' vs ds → Q (.ref a) H') :
    tLc (tiW X t iter) (tgB X scope t) (tpB X scope ifs) (teB X scope elt) (own.map (·.2)) σ H Q :=
  h Hs σ H _ S fun n f keep Γ1 J Hs1 H1 ⟨I, i0, ik, step, done⟩ s S1 ⟨G, Y, w, wg, wy⟩ D hD => by
      obtain ⟨fD, nD, al⟩ := alone_new S1 hD
      refine lc_it w (fun i H' => ∃ acc vs Γ' Hs', I i acc Γ' ∧ Same Hs1 Hs' ∧ Sx B Hs' σ H' Γ' ∧ H' D = some (.lst vs) ∧ DvAll Hs' vs acc ∧ Hs' D = none ∧ Alone Γ' D) ⟨[], [], _, Hs1, i0, Same.refl _, (S1.aside hD).clr rfl (fun _ _ => rfl), upd_same, .nil, nD, fun i b es e => al i b es (clr_some e fun z => nomatch z).2⟩ ?_ ?_ ?_
      · rintro i H' hi ⟨acc, vs, Γ', Hs', p, s', S', _⟩
        exact wg B Hs' σ H' Γ' (ik i acc Γ' hi p) s' S'
      · rintro i x H' H'' hi ⟨acc, vs, Γ', Hs', p, s', S', hD', dv, nD', al'⟩ y
        have SB := S'.hold hD' nD' fD al'
        have g0 : Grow B.fr B.hs Hs' := S'.gr
        obtain ⟨Hs2, s2, S2, dx⟩ := wy _ i Hs' σ H' Γ' x H'' hi (ik i acc Γ' (Nat.le_of_lt hi) p) s' SB y
        have body := step i acc Γ' hi p ⟨upd B.fr D (.lst vs), Hs', B.T⟩
        have S2w : Sx ⟨upd B.fr D (.lst vs), Hs', B.T⟩ Hs2 (wipe σ (own.map (·.2))) H'' (clr Γ' (own.map (·.2))) := S2.clr (wipe_length _ _) fun j hj => wipe_out hj
        have back : ∀ {Γ6 : List Sl} {Hs6 : Hp} {σ6 : L2.St} {H6 : Hp}, wipe σ6 (own.map (·.2)) = wipe σ (own.map (·.2)) → Sx ⟨upd B.fr D (.lst vs), Hs', B.T⟩ Hs6 σ6 H6 Γ6 → Sx B Hs6 σ H6 (clr Γ6 (own.map (·.2))) ∧ H6 D = some (.lst vs) ∧ Hs6 D = none ∧ Alone (clr Γ6 (own.map (·.2))) D := fun {Γ6 Hs6 σ6 H6} w6 S6 => by
          obtain ⟨l, e⟩ := wipe_same w6
          exact (S6.clr (vs := own.map (·.2)) l.symm fun j hj => (e j hj).symm).loose g0 fD nD'
        intro s0 H0 C cl fp
        refine body s0 H0 C cl fp Hs2 (wipe σ (own.map (·.2))) H'' x _ S2w dx fun Γ2 Hs3 σ3 H3 p3 s3 S3 w3 => ?_
        have w3 : wipe σ3 (own.map (·.2)) = wipe σ (own.map (·.2)) := w3.trans (wipe_eq (wipe_length _ _) fun j hj => wipe_out hj)
        refine ⟨w3, fun s0 H0 C cl fp => p3 s0 H0 C cl fp Hs3 σ3 H3 _ S3 fun b Γ3 Hs4 H4 p4 s4 S4 => ?_⟩
        cases b with
        | false =>
          obtain ⟨Sb, hb, nb, ab⟩ := back w3 S4
          have sAll : Same Hs' Hs4 := s2.trans (s3.trans s4)
          exact iteF ⟨acc, vs, _, Hs4, p4, s'.trans sAll, Sb, hb, dv.mono sAll, nb, ab⟩
        | true =>
          have p4 : Blk X scope fun Y => GE _ Y elt Γ3 fun d Γ4 => acc.length < sizeLine ∧ I (i + 1) (acc ++ [d]) (clr Γ4 (own.map (·.2))) := p4
          refine iteT fun s0 H0 C cl fp => p4 s0 H0 C cl fp Hs4 σ3 H4 _ S4 fun d Γ5 v5 Hs5 H5 ⟨hl, p5⟩ s5 S5 q5 => ?_
          obtain ⟨Sb, hb, nb, ab⟩ := back w3 S5
          have sAll : Same Hs' Hs5 := s2.trans (s3.trans (s4.trans s5))
          exact ⟨vs, hb, by rw [dv.len]; exact hl, acc ++ [d], vs ++ [v5], _, Hs5, p5, s'.trans sAll, Sb.beside hb rfl nb fD ab, upd_same, dvs_snoc (dv.mono sAll) q5, nb, ab⟩
      · rintro H' ⟨acc, vs, Γ', Hs', p, s', S', hD', dv, nD', al'⟩
        exact g acc Γ' D vs Hs' H' (done acc Γ' p) (s.trans s') S' fD nD' al' hD' dv
theorem lk_t {elt t iter : Expr} {ifs : List Expr} {scope : Scope} {own : List (Str × Nat)} {φ : List PyData → List Sl → Prop}
    (h : GI B X t iter Γ fun n f keep Γ1 => keep (clr Γ1 (own.map (·.2))) ∧ n ≤ sizeLine ∧ ∃ (p : Nat → Bool) (F : Nat → PyData),
      (∀ i, i < n → ∀ B', Blk X scope fun Y => GC B' Y (own.map (·.2)) t (f i) (clr Γ1 (own.map (·.2))) fun Γ2 => Blk X scope fun Y => GP B' Y ifs Γ2 fun b Γ3 => b = p i ∧ if b = true then Blk X scope fun Y => GE B' Y elt Γ3 fun d Γ4 => d = F i ∧ clr Γ4 (own.map (·.2)) = clr Γ1 (own.map (·.2)) else clr Γ3 (own.map (·.2)) = clr Γ1 (own.map (·.2))) ∧
      φ (((List.range n).filter p).map F) (clr Γ1 (own.map (·.2))))
    {Hs : Hp} {σ : L2.St} {H : Hp} {Q : VK} (S : Sx B Hs σ H Γ) (g : ∀ ds Γ' a vs Hs' H', φ ds Γ' → Same Hs Hs' → Sx B Hs' σ H' Γ' → B.fr a = none → Hs' a = none → Alone Γ' a → H' a = some (.lst vs) → DvAll Hs' vs ds → Q (.ref a) H') :
    tLc (tiW X t iter) (tgB X scope t) (tpB X scope ifs) (teB X scope elt) (own.map (·.2)) σ H Q := by
  refine lc_t (φ := φ) (fun Hs σ H R S g => ?_) S g
  refine h Hs σ H R S fun n f keep Γ1 J Hs1 H1 ⟨kp, hn, p, F, step, fin⟩ s S1 it => g n f keep Γ1 J Hs1 H1 ?_ s S1 it
  refine ⟨fun i acc Γ' => Γ' = clr Γ1 (own.map (·.2)) ∧ acc = ((List.range i).filter p).map F, ⟨rfl, rfl⟩, fun i acc Γ' _ ⟨e, _⟩ => e ▸ kp, ?_, ?_⟩
  · rintro i acc Γ' hi ⟨rfl, rfl⟩ B' s0 H0 C cl fp
    rw [clr_clr]
    intro Hs2 σ2 H2 v Q S2 dv g2
    refine step i hi B' s0 H0 C cl fp Hs2 σ2 H2 v Q S2 dv fun Γ2 Hs3 σ3 H3 p2 s3 S3 w3 => g2 Γ2 Hs3 σ3 H3 (fun s0 H0 C cl fp => ?_) s3 S3 w3
    intro Hs4 σ4 H4 Q4 S4 g4
    refine p2 s0 H0 C cl fp Hs4 σ4 H4 Q4 S4 fun b Γ3 Hs5 H5 ⟨eb, p3⟩ s5 S5 => g4 b Γ3 Hs5 H5 ?_ s5 S5
    have len : (((List.range i).filter p).map F).length < sizeLine := by
      rw [List.length_map]
      exact Nat.lt_of_le_of_lt (List.length_filter_le _ _) (by rw [List.length_range]; omega)
    cases b with
    | false =>
      refine iteF ⟨p3, ?_⟩
      rw [List.range_succ, List.filter_append, List.map_append, show [i].filter p = [] by simp [← eb]]
      simp
    | true =>
      have p3 : Blk X scope fun Y => GE B' Y elt Γ3 fun d Γ4 => d = F i ∧ clr Γ4 (own.map (·.2)) = clr Γ1 (own.map (·.2)) := p3
      refine iteT fun s0 H0 C cl fp Hs6 σ6 H6 Q6 S6 g6 => p3 s0 H0 C cl fp Hs6 σ6 H6 Q6 S6 fun d Γ4 v7 Hs7 H7 ⟨ed, ec⟩ s7 S7 q7 => g6 d Γ4 v7 Hs7 H7 ⟨len, ec, ?_⟩ s7 S7 q7
      rw [List.range_succ, List.filter_append, List.map_append, show [i].filter p = [i] by simp [← eb], ed]
      rfl
  · rintro acc Γ' ⟨rfl, rfl⟩
    exact fin
theorem lockS {B : Bas} {Γ' : List Sl} {Hs' H' : Hp} {σ' : L2.St} {a : Addr} {vs : List V} {ds : List PyData} (T : Sx B Hs' σ' H' Γ') (f : B.fr a = none) (n : Hs' a = none) (al : Alone Γ' a) (ha : H' a = some (.lst vs)) (q : DvAll Hs' vs ds) :
    Same Hs' (upd Hs' a (.lst vs)) ∧ Sx B (upd Hs' a (.lst vs)) σ' H' Γ' ∧ Dv (upd Hs' a (.lst vs)) (.ref a) (.list ds) := by
  have g : Same Hs' (upd Hs' a (.lst vs)) := Same.new n
  refine ⟨g, ⟨T.fr, T.gr.trans ⟨g, fun b nb fb => ?_⟩, fun b u eb => ?_, T.len, fun j t ej => (T.sl j t ej).mono g fun b es z => ?_, T.ap, tabs_fz T.tb ha⟩, .lst (.inl upd_same) (q.mono g)⟩
  · exact (upd_ne fun z => fb (by rw [z]; exact f)).trans nb
  · by_cases z : b = a
    · subst z
      rw [upd_same] at eb
      rw [ha]
      exact eb
    · rw [upd_ne z] at eb
      exact T.sub b u eb
  · subst z
    obtain ⟨_, _, nb, _⟩ := T.lst ej
    exact ⟨(upd_ne (al j b es ej)).trans nb, rfl⟩
theorem set_lk {N : List Str} {E : DE} {x : Str} {py : Pos} {elt t iter : Expr} {ifs : List Expr} {scope : Scope} {lpos : Pos} {i : Nat} (c : Bod X k) (nd : N.Nodup) (eN : X.N = N) {own : List (Str × Nat)} (hi : idxS X.N x = some i) (hx : X.env.scope.names.lookup x = some .local) (eo : ownS N scope = own) (ok : blkC N X.env.scope scope own = true)
    (hsw : swapsWith (.ListComp elt [⟨t, iter, ifs, 0⟩] scope lpos) (some (.Name x py)) pos.line X.env = pure true) (hs : ∀ x, foldedSetIterable iter X.env x = pure x)
    (h : GI B X t iter Γ fun n f keep Γ1 => keep (clr Γ1 (own.map (·.2))) ∧ n ≤ sizeLine ∧ ∃ (p : Nat → Bool) (F : Nat → PyData),
      (∀ i, i < n → ∀ B', Blk X scope fun Y => GC B' Y (own.map (·.2)) t (f i) (clr Γ1 (own.map (·.2))) fun Γ2 => Blk X scope fun Y => GP B' Y ifs Γ2 fun b Γ3 => b = p i ∧ if b = true then Blk X scope fun Y => GE B' Y elt Γ3 fun d Γ4 => d = F i ∧ clr Γ4 (own.map (·.2)) = clr Γ1 (own.map (·.2)) else clr Γ3 (own.map (·.2)) = clr Γ1 (own.map (·.2))) ∧
      (Nat.ble (i + 1) (clr Γ1 (own.map (·.2))).length = true ∧ ∀ a, Alone (clr Γ1 (own.map (·.2))) a → E.nx ((clr Γ1 (own.map (·.2))).set i (.own a (((List.range n).filter p).map F))))) : G1 B X (.Assign [.Name x py] (.ListComp elt [⟨t, iter, ifs, 0⟩] scope lpos) pos) Γ E := fun D Hs σ H R S =>
  ps_of (ps_setLc (wi := tiW X t iter) (g := tgB X scope t) (tt := tpB X scope ifs) (te := teB X scope elt) c.calm (eN ▸ nd) (idxS_ok hi) hx hsw pi_W (blkOk_by (eN.symm ▸ ok)) (fun s0 H0 C cl fp => ⟨fun pins s _ _ _ u _ I r h => tgE (h s0 H0 C cl fp) pins s u I r⟩) (fun s0 H0 C cl fp => ⟨fun pins s _ _ _ I h => tpE (h s0 H0 C cl fp) pins s I⟩) (fun s0 H0 C cl fp => ⟨fun pins s _ _ _ I h => teE (h s0 H0 C cl fp) pins s I⟩) hs)
    (lk_t (φ := fun ds Γ1 => Nat.ble (i + 1) Γ1.length = true ∧ ∀ a, Alone Γ1 a → E.nx (Γ1.set i (.own a ds))) h S fun ds Γ1 a vs Hs1 H1 ⟨l, p⟩ s S1 f n al ha q => R.nx _ Hs1 _ H1 (p a al) s (S1.putL (Nat.le_of_ble_eq_true l) f n ha q al))
theorem set_ld {N : List Str} {E : DE} {x : Str} {py : Pos} {elt t iter : Expr} {ifs : List Expr} {scope : Scope} {lpos : Pos} {i : Nat} (c : Bod X k) (nd : N.Nodup) (eN : X.N = N) {own : List (Str × Nat)} (hi : idxS X.N x = some i) (hx : X.env.scope.names.lookup x = some .local) (eo : ownS N scope = own) (ok : blkC N X.env.scope scope own = true)
    (hsw : swapsWith (.ListComp elt [⟨t, iter, ifs, 0⟩] scope lpos) (some (.Name x py)) pos.line X.env = pure true) (hs : ∀ x, foldedSetIterable iter X.env x = pure x)
    (h : GI B X t iter Γ fun n f keep Γ1 => keep (clr Γ1 (own.map (·.2))) ∧ n ≤ sizeLine ∧ ∃ (p : Nat → Bool) (F : Nat → PyData),
      (∀ i, i < n → ∀ B', Blk X scope fun Y => GC B' Y (own.map (·.2)) t (f i) (clr Γ1 (own.map (·.2))) fun Γ2 => Blk X scope fun Y => GP B' Y ifs Γ2 fun b Γ3 => b = p i ∧ if b = true then Blk X scope fun Y => GE B' Y elt Γ3 fun d Γ4 => d = F i ∧ clr Γ4 (own.map (·.2)) = clr Γ1 (own.map (·.2)) else clr Γ3 (own.map (·.2)) = clr Γ1 (own.map (·.2))) ∧
      (Nat.ble (i + 1) (clr Γ1 (own.map (·.2))).length = true ∧ E.nx ((clr Γ1 (own.map (·.2))).set i (.d (.list (((List.range n).filter p).map F)))))) : G1 B X (.Assign [.Name x py] (.ListComp elt [⟨t, iter, ifs, 0⟩] scope lpos) pos) Γ E := fun D Hs σ H R S =>
  ps_of (ps_setLc (wi := tiW X t iter) (g := tgB X scope t) (tt := tpB X scope ifs) (te := teB X scope elt) c.calm (eN ▸ nd) (idxS_ok hi) hx hsw pi_W (blkOk_by (eN.symm ▸ ok)) (fun s0 H0 C cl fp => ⟨fun pins s _ _ _ u _ I r h => tgE (h s0 H0 C cl fp) pins s u I r⟩) (fun s0 H0 C cl fp => ⟨fun pins s _ _ _ I h => tpE (h s0 H0 C cl fp) pins s I⟩) (fun s0 H0 C cl fp => ⟨fun pins s _ _ _ I h => teE (h s0 H0 C cl fp) pins s I⟩) hs)
    (lk_t (φ := fun ds Γ1 => Nat.ble (i + 1) Γ1.length = true ∧ E.nx (Γ1.set i (.d (.list ds)))) h S fun ds Γ1 a vs Hs1 H1 ⟨l, p⟩ s S1 f n al ha q => by
      obtain ⟨g, S2, d⟩ := lockS S1 f n al ha q
      exact R.nx _ _ _ H1 p (s.trans g) (S2.putD (Nat.le_of_ble_eq_true l) d))
end
end Px
/-! Places of lists of one's own, by names. -/
namespace Px
open PySem PySem.Spec PyProof.Rows L2 Tc
section
variable {B : Bas} {X : Cx} {Γ : List Sl} {E : DE} {pos : Pos} {k : Nat}
theorem ixo_n {i : Nat} {x : Str} {p0 : Pos} {b : Expr} {ad : Addr} {ds : List PyData} {φ : PyData → List Sl → Prop} (hN : idxS X.N x = some i) (hΓ : Γ[i]? = some (.own ad ds)) (hv : Sees X.env.scope x = true) (hs : PlainIx b) (h : GE B X b Γ fun d2 Γ2 => ∃ es, Γ2[i]? = some (.own ad es) ∧ IxD (.list es) d2 fun d => φ d Γ2)
    (hd : (x == ("__debug__" : Str)) = false) (hcd : (x == ("__classdict__" : Str)) = false) : GE B X (.Subscript (.Name x p0) b pos) Γ φ := ge_ixO i (idxS_ok hN) hΓ (sees_ok hv) hs h hd hcd
theorem put_n {i : Nat} {x : Str} {e j : Expr} {p0 ps : Pos} {ad : Addr} {ds0 : List PyData} (hN : idxS X.N x = some i) (hΓ : Γ[i]? = some (.own ad ds0)) (hv : Sees X.env.scope x = true)
    (h : GE B X e Γ fun d Γ1 => (∃ ds, Γ1[i]? = some (.own ad ds)) ∧ GE B X j Γ1 fun dj Γ2 => ∃ ds m, Γ2[i]? = some (.own ad ds) ∧ ∃ n, dj = .int n ∧ ixN ds.length n = some m ∧ E.nx (Γ2.set i (.own ad (ds.set m d))))
    (hd : (x == ("__debug__" : Str)) = false) (hcd : (x == ("__classdict__" : Str)) = false)
    (ha : ∀ v, assign (.Subscript (.Name x p0) j ps) X.env v = (do
      let ov ← holding [v] (eval (.Name x p0) X.env)
      let iv ← holding [v, ov] (eval j X.env)
      standAt ps
      holding [v, ov, iv] (setItem ov iv v)
      release [v, ov, iv] []))
    (hs : swapsWithSole [.Subscript (.Name x p0) j ps] e pos.line X.env = pure false) (hw : swappedStores [.Subscript (.Name x p0) j ps] e X.env = pure none)
    (h1 : (assignEach [.Subscript (.Name x p0) j ps] X.env).map (·.2) = [assign (.Subscript (.Name x p0) j ps) X.env]) : G1 B X (.Assign [.Subscript (.Name x p0) j ps] e pos) Γ E := g1_put i (idxS_ok hN) (sees_ok hv) h hd hcd ha hs hw h1
/-- a place of a list as a target -/
theorem gg_put {i : Nat} {x : Str} {j : Expr} {p0 : Pos} {ad : Addr} {ds0 : List PyData} {d : PyData} {φ : List Sl → Prop} (hN : idxS X.N x = some i) (hΓ : Γ[i]? = some (.own ad ds0)) (hv : Sees X.env.scope x = true)
    (h : GE B X j Γ fun dj Γ2 => ∃ ds m, Γ2[i]? = some (.own ad ds) ∧ ∃ n, dj = .int n ∧ ixN ds.length n = some m ∧ φ (Γ2.set i (.own ad (ds.set m d))))
    (hd : (x == ("__debug__" : Str)) = false) (hcd : (x == ("__classdict__" : Str)) = false)
    (ha : ∀ v, assign (.Subscript (.Name x p0) j pos) X.env v = (do
      let ov ← holding [v] (eval (.Name x p0) X.env)
      let iv ← holding [v, ov] (eval j X.env)
      standAt pos
      holding [v, ov, iv] (setItem ov iv v)
      release [v, ov, iv] [])) : GG B X (.Subscript (.Name x p0) j pos) d Γ φ := fun Hs σ H v Q S q g => by
  refine pg_of (pg_sub (pe_var (idxS_ok hN) (sees_ok hv) hd hcd) pe_W set_list ha) ?_
  obtain ⟨e1, _⟩ := S.lst hΓ
  refine ⟨_, e1, h Hs σ H _ S fun dj Γ2 vj Hs2 H2 ⟨ds, m, g2, n, ej, ix, nx⟩ s2 S2 qj => ?_⟩
  subst ej
  cases qj
  obtain ⟨_, _, _, vs, hv2, dv⟩ := S2.lst g2
  exact ⟨ad, vs, n, m, rfl, rfl, hv2, by rw [dv.len]; exact ix, g _ Hs2 σ _ nx s2 (S2.upd g2 (dvs_set m dv (q.mono s2)))⟩
theorem gg_n {N : List Str} (nd : N.Nodup) (eN : X.N = N) {i : Nat} {x : Str} {d : PyData} {φ : List Sl → Prop} (hi : idxS X.N x = some i) (hx : LocB X.env.scope x = true) (hf : X.fn x = true ∨ X.env.scope.names.lookup x = some .local)
    (h : Nat.ble (i + 1) Γ.length = true ∧ φ (Γ.set i (.d d))) : GG B X (.Name x pos) d Γ φ := gg_name (eN ▸ nd) i (idxS_ok hi) (locB_ok hx) ⟨Nat.le_of_ble_eq_true h.1, h.2⟩ hf
theorem gg_t (calm : X.calm = true) {ts : List Expr} {n1 : Nat} {ds : List PyData} {φ : List Sl → Prop} {n : Nat} (hn : (assignEach ts X.env).length = n) (hl : ds.length = n) (hst : (assignEach ts X.env).findIdx? (·.1) = none) (h : GGs B X ts ds Γ φ) : GG B X (.Tuple ts n1 pos) (.tuple ds) Γ φ := gg_tup calm h hn hl hst
theorem ggs_put {i : Nat} {x : Str} {j : Expr} {p0 ps : Pos} {ad : Addr} {ds0 : List PyData} {d : PyData} {ts : List Expr} {ds : List PyData} {φ : List Sl → Prop} {n : Int} {m : Nat} (hN : idxS X.N x = some i) (hΓ : Γ[i]? = some (.own ad ds0)) (hv : Sees X.env.scope x = true)
    (hj : ∀ ψ : PyData → List Sl → Prop, ψ (.int n) Γ → GE B X j Γ ψ) (hm : ixN ds0.length n = some m)
    (h : GGs B X ts ds (Γ.set i (.own ad (ds0.set m d))) φ)
    (hd : (x == ("__debug__" : Str)) = false) (hcd : (x == ("__classdict__" : Str)) = false)
    (ha : ∀ v, assign (.Subscript (.Name x p0) j ps) X.env v = (do
      let ov ← holding [v] (eval (.Name x p0) X.env)
      let iv ← holding [v, ov] (eval j X.env)
      standAt ps
      holding [v, ov, iv] (setItem ov iv v)
      release [v, ov, iv] []))
    (hs : (assignEach (.Subscript (.Name x p0) j ps :: ts) X.env).map (·.2) = assign (.Subscript (.Name x p0) j ps) X.env :: (assignEach ts X.env).map (·.2)) : GGs B X (.Subscript (.Name x p0) j ps :: ts) (d :: ds) Γ φ :=
  ggs_cons _ (gg_put hN hΓ hv (hj _ ⟨ds0, m, hΓ, n, rfl, hm, rfl⟩) hd hcd ha) h hs
theorem ggs_put0 {i : Nat} {x : Str} {p0 ps cp : Pos} {ad : Addr} {ds0 : List PyData} {d : PyData} {ts : List Expr} {ds : List PyData} {φ : List Sl → Prop} {n : Int} {m k0 : Nat} (hN : idxS X.N x = some i) (hΓ : Γ[i]? = some (.own ad ds0)) (hv : Sees X.env.scope x = true)
    (hm : ixN ds0.length n = some m)
    (h : GGs B X ts ds (Γ.set i (.own ad (ds0.set m d))) φ)
    (hd : (x == ("__debug__" : Str)) = false) (hcd : (x == ("__classdict__" : Str)) = false)
    (ha : ∀ v, assign (.Subscript (.Name x p0) (.Constant (.int n) k0 cp) ps) X.env v = (do
      let ov ← holding [v] (eval (.Name x p0) X.env)
      let iv ← holding [v, ov] (eval (.Constant (.int n) k0 cp) X.env)
      standAt ps
      holding [v, ov, iv] (setItem ov iv v)
      release [v, ov, iv] []))
    (hs : (assignEach (.Subscript (.Name x p0) (.Constant (.int n) k0 cp) ps :: ts) X.env).map (·.2) = assign (.Subscript (.Name x p0) (.Constant (.int n) k0 cp) ps) X.env :: (assignEach ts X.env).map (·.2)) : GGs B X (.Subscript (.Name x p0) (.Constant (.int n) k0 cp) ps :: ts) (d :: ds) Γ φ :=
  ggs_put hN hΓ hv (fun ψ h => ge_int h) hm h hd hcd ha hs
theorem ggs_n {N : List Str} (nd : N.Nodup) (eN : X.N = N) {i : Nat} {x : Str} {p : Pos} {d : PyData} {ts : List Expr} {ds : List PyData} {φ : List Sl → Prop} (hi : idxS X.N x = some i) (hx : LocB X.env.scope x = true) (hf : X.fn x = true ∨ X.env.scope.names.lookup x = some .local)
    (h : Nat.ble (i + 1) Γ.length = true ∧ GGs B X ts ds (Γ.set i (.d d)) φ) (hs : (assignEach (.Name x p :: ts) X.env).map (·.2) = assign (.Name x p) X.env :: (assignEach ts X.env).map (·.2)) : GGs B X (.Name x p :: ts) (d :: ds) Γ φ :=
  ggs_cons _ (gg_n nd eN hi hx hf ⟨h.1, rfl⟩) h.2 hs
theorem asg_t {ts : List Expr} {n1 : Nat} {tp : Pos} {e : Expr} (h : GE B X e Γ fun d Γ1 => GG B X (.Tuple ts n1 tp) d Γ1 E.nx) (hs : swapsWithSole [.Tuple ts n1 tp] e pos.line X.env = pure false) (hw : swappedStores [.Tuple ts n1 tp] e X.env = pure none)
    (h1 : (assignEach [.Tuple ts n1 tp] X.env).map (·.2) = [assign (.Tuple ts n1 tp) X.env]) : G1 B X (.Assign [.Tuple ts n1 tp] e pos) Γ E := g1_asg h hs hw h1
theorem mod_i {i j : Int} {k : PyData → Prop} (c : 0 < j) (h : k (.int (i % j))) : IntD (fun _ j => 0 < j) (fun i j => i % j) (.int i) (.int j) k := ⟨c, h⟩
theorem fdiv_i {i j : Int} {k : PyData → Prop} (c : 0 < j) (c2 : j.natAbs < 2 ^ 600) (h : k (.int (i / j))) : IntD CDivW (fun i j => i / j) (.int i) (.int j) k := ⟨wide_div c c2 (by decide) (by decide), h⟩
end
end Px
namespace Px
open PySem PySem.Spec PyProof.Rows L2 Tc
section
variable {B : Bas} {X : Cx} {Γ : List Sl} {E : DE} {pos : Pos} {k : Nat}
theorem add_l2 {xs ys : List PyData} {k : PyData → Prop} (l : Nat.ble (xs.length + ys.length) 1000 = true) (h : k (.list (xs ++ ys))) : AddD (.list xs) (.list ys) k := add_ll (Nat.le_trans (Nat.le_of_ble_eq_true l) (by decide)) h
theorem add_t2 {xs ys : List PyData} {k : PyData → Prop} (l : Nat.ble (xs.length + ys.length) 1000 = true) (h : k (.tuple (xs ++ ys))) : AddD (.tuple xs) (.tuple ys) k := add_tt (Nat.le_trans (Nat.le_of_ble_eq_true l) (by decide)) h
end
end Px
/-! Things that are not tracked, tracked while a def runs; and the other way round. -/
namespace Py
open PySem PySem.Spec PyProof.Rows L2 Tc Px
abbrev Pins := List (Addr × Obj)
/-- this very object stands there -/
def ObO (a : Addr) (o : Obj) : HO := .ext fun h => h.get? a = some o
def back (H2 H' : Hp) (L : Pins) : Hp := fun b => match L.lookup b with
  | some _ => H2 b
  | none => H' b
section
variable {H H' H2 : Hp} {L : Pins} {b : Addr} {o : Obj}
/-- what is to be tracked for a while -/
structure Free (L : Pins) (H : Hp) (h : Heap) (fs : List Addr) : Prop where
  at_ : ∀ b o, L.lookup b = some o → h.get? b = some o
  no : ∀ b o, L.lookup b = some o → H b = none
  fr : ∀ b o, L.lookup b = some o → b ∉ fs
theorem Free.out {h : Heap} {fs : List Addr} (F : Free L H h fs) {u : HO} (e : H b = some u) : L.lookup b = none := by
  cases q : L.lookup b with
  | none => rfl
  | some o => rw [F.no b o q] at e; cases e
section
variable {P : Program} {w : World} {h h' B : Heap} {fs : List Addr}
/-- all of them are there still -/
def Kept (L : Pins) (H' : Hp) : Prop := ∀ b o, L.lookup b = some o → H' b = some (ObO b o)
theorem Kept.at_ (K : Kept L H') (k : HOk P w H' h) {b : Addr} {o : Obj} (q : L.lookup b = some o) : h.get? b = some o := by
  obtain ⟨e, _⟩ : h.get? b = some o ∧ _ := k b _ (K b o q)
  exact e
/-! the other way -/
end
end
end Py
/-! A lambda without parameters as a value: what a call of it gives. -/
namespace Py
open PySem PySem.Spec PyProof.Rows L2 Tc Px
open LamX (LamS lamCx lamEnv Tabs TabB ExtN CodeO TabS)
/-- what calling the function at a gives -/
structure ActS (P : Program) (w : World) (K : PySem.W.Frag) (mg : Str → Option Value) (base : Heap) (k : Nat) (H Hs : Hp) (a : Addr) (out : Out) : Prop where
  obj : ∃ oc od fd osl, H a = some (ObO a ⟨oc, od, .func fd, osl⟩)
  run : ∀ (A : Around) (outer : List Env) (s : Shared) (H2 Hs2 : Hp) (Q : VK) (E : XK), Room k A → A.guards = some [] → Env0 P w K mg base A outer s H2 → Same H H2 → Grow H Hs Hs2 → Same Hs2 H2 →
    (∀ v Hs' H', Same H2 H' → Same Hs' H' → Grow H2 Hs2 Hs' → out.to (fun d => Dv Hs' v d → Q v H') (fun C d => Dv Hs' v d → upE C v H' E)) →
    codeAny (model P w) A (.call (.ref a) ⟨[], []⟩) (CR (L2.CX P w) outer P w H2 s Q E) s
end Py
/-! A lambda is made: its object is tracked from then on. -/
namespace Py
open PySem PySem.Spec PyProof.Rows L2 Tc Px
open LamX (LamS lamCx lamEnv Tabs TabB ExtN CodeO TabS)
end Py
/-! Values that are no data: a def gets them, calls them, walks a list of them; a caught exception as an argument. -/
namespace Py
open PySem PySem.Spec PyProof.Rows L2 Tc Px
theorem ActS.mono {P : Program} {w : World} {K : PySem.W.Frag} {mg : Str → Option Value} {base : Heap} {k : Nat} {H Hs H' Hs' : Hp} {a : Addr} {out : Out} (A : ActS P w K mg base k H Hs a out) (s : Same H H') (g : Grow H Hs Hs') : ActS P w K mg base k H' Hs' a out := by
  refine ⟨?_, fun A' outer st H2 Hs2 Q E hr hg e0 s2 g2 u2 q => A.run A' outer st H2 Hs2 Q E hr hg e0 (s.trans s2) (g.trans (g2.mono fun b nb => ?_)) u2 q⟩
  · obtain ⟨oc, od, fd, osl, h⟩ := A.obj
    exact ⟨oc, od, fd, osl, s _ _ h⟩
  · cases q : H b with
    | none => exact absurd q nb
    | some u =>
      rw [s b u q]
      exact fun z => nomatch z
end Py
namespace Py
open PySem PySem.Spec PyProof.Rows L2 Tc Px
end Py
/-! Further built-ins on data. -/
namespace Py
open PySem PySem.Spec PyProof.Rows L2 Tc Px
section
variable {B : Bas} {X : Cx} {Γ : List Sl} {pos ap : Pos} {k : Nat} {E : DE} {φ : PyData → List Sl → Prop} {a b : Expr}
abbrev Few (X : Cx) (cpos : Pos) (e : Expr) (es : List Expr) : Prop := ((backTo cpos (starEach (e :: es) X.env)).all (fun x => !x.1) && (backToKw cpos (keywordEach [] X.env)).all (fun x => x.1.isSome)
      && decide ((e :: es).length + ([] : List Keyword).length + (if ([] : List Keyword).isEmpty then 0 else 1) < 30)) = true
/-- x.append(e), x a list of one's own -/
theorem g1_append {i : Nat} {x : Str} {xp : Pos} {e : Expr} {spos : Pos} {ad : Addr} {ds0 : List PyData} (hN : idxS X.N x = some i) (hΓ : Γ[i]? = some (.own ad ds0)) (hv : Sees X.env.scope x = true)
    (h : GE B X e Γ fun d Γ1 => ∃ ds, Γ1[i]? = some (.own ad ds) ∧ ds.length < sizeLine ∧ E.nx (Γ1.set i (.own ad (ds ++ [d]))))
    (hd : (x == ("__debug__" : Str)) = false) (hcd : (x == ("__classdict__" : Str)) = false)
    (hb : attributeBase (.Name x xp) "append" X.env (eval (.Name x xp) X.env) = eval (.Name x xp) X.env) (hf : Few X pos e []) (hl : (ap.endLine == pos.line) = true) (hs : starEach [e] X.env = (false, eval e X.env) :: starEach [] X.env)
    (hw : swapsWith (.Call (.Attribute (.Name x xp) "append" ap) [e] [] pos) none spos.line X.env = pure false) : G1 B X (.Expr (.Call (.Attribute (.Name x xp) "append" ap) [e] [] pos) spos) Γ E := fun D Hs σ H R S =>
  ps_of (ps_expr (pe_bm PySem.F.plainAttrs_list PySem.F.slot_list_append PySem.F.type_list_append mt_append (pe_var (idxS_ok hN) (sees_ok hv) hd hcd) (pa_cons pe_W pa_nil hs) hb hf hl hs rfl) hw) (by
    obtain ⟨e1, _, _, vs, hv1, _⟩ := S.lst hΓ
    refine ⟨_, e1, .inl ⟨rfl, _, .inl (.inl hv1)⟩, show teW X e σ H _ from h Hs σ H _ S fun d Γ1 v Hs1 H1 ⟨ds, g1, hz, p⟩ s S1 q => ?_⟩
    obtain ⟨_, _, _, ws, hw1, dv⟩ := S1.lst g1
    exact ⟨ad, ws, v, rfl, rfl, hw1, by rw [dv.len]; exact hz, R.nx _ Hs1 σ _ p s (S1.upd g1 (dvs_snoc dv q))⟩)
/-- != of a list and the empty one -/
theorem op_neL {k : Nat} (c : Cxt X k) : OpR X (compareOp .NotEq) (fun x y H Q => ∃ a b xs, x = .ref a ∧ y = .ref b ∧ Rd H a (.lst xs) ∧ Rd H b (.lst []) ∧ Q (.bl (!xs.isEmpty)) H) := by
  intro pins s σ H x y v u Q I rx ry h
  obtain ⟨a, b, xs, rfl, rfl, ha, hb, q⟩ := h
  cases rx
  cases ry
  obtain ⟨its, r1, p1, _⟩ := I.list (rdL (K := X.K) ha)
  obtain ⟨its2, r2, p2, _⟩ := I.list (rdL (K := X.K) hb)
  cases r2
  have un : X.A.units < cLine := by have := c.room.units; omega
  have fin : ∀ t, t = (!xs.isEmpty) → EP X pins σ Q (.bool t) s := fun t e => ⟨.bl t, H, I, rfl, by rw [e]; exact q⟩
  cases xs with
  | nil =>
    cases r1
    exact SeqAt.RcNeAt.lists (e := fun _ => true) p1.isList p2.isList rfl un (fun j h1 _ => absurd h1 (by simp)) _ _ _ _ (fin _ rfl)
  | cons z zs =>
    cases r1 with
    | cons r rs =>
      exact SeqAt.RcNeAt.lists_lengths p1.isList p2.isList (by simp) un _ _ _ _ (fin _ rfl)
theorem gt_neL {k : Nat} {lp : Pos} {ψ : Bool → List Sl → Prop} (c : Cxt X k) (h : GE B X a Γ fun d Γ1 => ∃ xs, d = .list xs ∧ ψ (!xs.isEmpty) Γ1) : GT B X (.Compare a [.NotEq] [.List [] lp] pos) Γ ψ := fun Hs σ H Q S g =>
  pt_of (pt_cmpR (op_neL c) pe_W (pe_lst pa_nil) (nomark _)) (h Hs σ H _ S fun d Γ1 v Hs1 H1 ⟨xs, e, p⟩ s S1 q => by
    subst e
    cases q with
    | @lst p0 vs _ r dv =>
      refine ⟨by show 0 ≤ sizeLine; decide, fun q hq => ⟨p0, q, vs, rfl, rfl, rd_up (S1.aside (o := .lst []) hq).sub r, .inl upd_same, !vs.isEmpty, rfl, ?_⟩⟩
      have e : vs.isEmpty = xs.isEmpty := by
        have := dv.len
        cases vs <;> cases xs <;> first | rfl | cases this
      rw [e]
      exact g _ Γ1 Hs1 _ p s (S1.aside hq))
end
end Py
namespace Py
open PySem PySem.Spec PyProof.Rows L2 Tc Px
end Py
/-! A call with some things tracked for it; try: .. except (A, B, C) as e: return word(e). -/
namespace Py
open PySem PySem.Spec PyProof.Rows L2 Tc Px
open L2H (RoomH PinOk cxH inv_startH)
theorem Sx.un {B : Bas} {Hs Hs' : Hp} {σ : L2.St} {H : Hp} {Γ : List Sl} (g : Grow B.fr B.hs Hs) (S : Sx ⟨B.fr, Hs, B.T⟩ Hs' σ H Γ) : Sx B Hs' σ H Γ := ⟨S.fr, g.trans S.gr, S.sub, S.len, S.sl, S.ap, S.tb⟩
theorem pass_never {X : Cx} {σ : L2.St} : PassesAt (L2.CX X.prog X.w) X σ (fun _ _ _ => False) := fun pins H s e s' I c => by
  obtain ⟨_, _, _, _, _, _, _, _, _, _, _, _, h⟩ := c
  exact h.elim
/-! ### a def that an except suite calls with its exception -/
end Py
/-! list * int; how long what repr shows is. -/
namespace Py
open PySem PySem.Spec PyProof.Rows L2 Tc Px
section
variable {B : Bas} {X : Cx} {Γ : List Sl} {pos : Pos} {φ : List PyData → List Sl → Prop} {a b : Expr}
theorem gf_rep (h : GF B X a Γ fun ds Γ1 => ∀ B' : Bas, Same B.fr B'.fr → Grow B.fr B.hs B'.hs → GE B' X b Γ1 fun d Γ2 => ∃ k : Int, d = .int k ∧ (0 ≤ k ∧ k ≤ 1000) ∧ ds.length ≤ 1000 ∧ φ (List.replicate k.toNat ds).flatten Γ2) : GF B X (.BinOp a .Mult b pos) Γ φ := fun Hs σ H Q S g =>
  pe_of (pe_op op_rep pe_W pe_W) (h Hs σ H _ S fun ds Γ1 p vs Hs1 H1 hB s1 S1 f n al hp dv => by
    have SB := S1.hold hp n f al
    refine hB ⟨upd B.fr p (.lst vs), Hs1, B.T⟩ (Same.new f) S1.gr Hs1 σ H1 _ SB fun d Γ2 v2 Hs2 H2 ⟨k, e, hk, hl, hφ⟩ s2 S2 q2 => ?_
    subst e
    cases q2
    obtain ⟨Sb, hb, nb, ab⟩ := S2.loose S1.gr f n
    have z : vs.length * k.toNat ≤ sizeLine := by
      rw [dv.len]
      refine Nat.le_trans (Nat.mul_le_mul hl (show k.toNat ≤ 1000 by omega)) (by decide)
    refine ⟨p, k, vs, rfl, rfl, hb, by omega, by omega, z, fun q hq => ?_⟩
    obtain ⟨f2, n2, al2⟩ := alone_new Sb hq
    exact g _ Γ2 q _ Hs2 _ hφ (s1.trans s2) (Sb.aside hq) f2 n2 al2 upd_same (dvs_rep (dv.mono s2) _))
end
/-! ### what repr shows -/
def GN (n k : Nat) (d : PyData) : Prop := d.showable = true ∧ d.depth ≤ k ∧ d.shown.length ≤ n
instance (n k : Nat) (d : PyData) : Decidable (GN n k d) := by unfold GN; exact inferInstance
theorem GN.mono {n k m l : Nat} {d : PyData} (h : GN n k d) (h1 : n ≤ m) (h2 : k ≤ l) : GN m l d := ⟨h.1, Nat.le_trans h.2.1 h2, Nat.le_trans h.2.2 h1⟩
theorem GN.good {n k : Nat} {d : PyData} (h : GN n k d) (h1 : n ≤ 1000000) (h2 : k ≤ 100) : Good d := ⟨h.1, Nat.le_trans h.2.1 h2, Nat.le_trans h.2.2 (Nat.le_trans h1 (by decide))⟩
theorem all_gn {n k : Nat} : ∀ {ds : List PyData}, (∀ d ∈ ds, GN n k d) → PyData.showableAll ds = true ∧ PyData.depthAll ds ≤ k ∧ piled (PyData.shownAll ds) ≤ ds.length * (n + 2)
  | [], _ => ⟨rfl, Nat.zero_le _, Nat.zero_le _⟩
  | d :: r, h => by
    obtain ⟨a1, a2, a3⟩ := h d List.mem_cons_self
    obtain ⟨b1, b2, b3⟩ := all_gn (ds := r) fun e he => h e (List.mem_cons_of_mem _ he)
    refine ⟨?_, ?_, ?_⟩
    · show (PyData.showable d && PyData.showableAll r) = true
      rw [a1, b1] <;> rfl
    · show max (PyData.depth d) (PyData.depthAll r) ≤ k
      omega
    · show piled (PyData.shown d :: PyData.shownAll r) ≤ _
      rw [piled_cons, List.length_cons, Nat.add_mul]
      omega
theorem from_le : ∀ (ts : List Str) (k : Nat) (acc : Str), (textFrom k acc ts).length ≤ acc.length + piled ts
  | [], k, acc => Nat.le_add_right _ _
  | t :: r, k, acc => by
    have ih := from_le r (k + 1) (acc ++ (if k > 0 then ", " else "" : String) ++ t)
    show (textFrom (k + 1) (acc ++ (if k > 0 then ", " else "" : String) ++ t) r).length ≤ _
    rw [piled_cons]
    have e : (acc ++ (if k > 0 then ", " else "" : String) ++ t : Str).length ≤ acc.length + 2 + t.length := by
      rw [Str.length_append, Str.length_append]
      have : (Str.ofString (if k > 0 then ", " else "" : String)).length ≤ 2 := by
        split <;> decide
      omega
    omega
theorem gn_list {n k : Nat} {ds : List PyData} (h : ∀ d ∈ ds, GN n k d) : GN (ds.length * (n + 2) + 2) (k + 1) (.list ds) := by
  obtain ⟨a1, a2, a3⟩ := all_gn h
  refine ⟨a1, Nat.succ_le_succ a2, ?_⟩
  show (textFrom 0 "[" (PyData.shownAll ds) ++ "]" : Str).length ≤ _
  rw [Str.length_append]
  have z := from_le (PyData.shownAll ds) 0 "["
  have e1 : (Str.ofString "[").length = 1 := by decide
  have e2 : (Str.ofString "]").length = 1 := by decide
  omega
theorem gn_tup {n k : Nat} {ds : List PyData} (h : ∀ d ∈ ds, GN n k d) : GN (ds.length * (n + 2) + 3) (k + 1) (.tuple ds) := by
  obtain ⟨a1, a2, a3⟩ := all_gn h
  refine ⟨a1, Nat.succ_le_succ a2, ?_⟩
  show (("(" : Str) ++ Str.join ", " (PyData.shownAll ds) ++ (if (PyData.shownAll ds).length == 1 then ",)" else ")" : String)).length ≤ _
  rw [Str.length_append, Str.length_append]
  have e1 : (Str.ofString "(").length = 1 := by decide
  have e2 : (Str.ofString (if (PyData.shownAll ds).length == 1 then ",)" else ")" : String)).length ≤ 2 := by split <;> decide
  have e3 : (Str.join ", " (PyData.shownAll ds)).length ≤ piled (PyData.shownAll ds) := by
    by_cases z : PyData.shownAll ds = []
    · rw [z]
      decide
    · have := join_length_add _ z
      omega
  omega
theorem gn_int {i : Int} (h0 : -1 ≤ i) (h1 : i ≤ 100000) : GN 13 0 (.int i) := by
  have f := Fine.int h0 h1
  exact ⟨f.sh, f.dp, of_decide_eq_true f.short⟩
end Py
namespace Py
open PySem PySem.Spec PyProof.Rows L2 Tc Px
end Py
/-! Two names at once; lists by tests; comprehensions that change something; numbers that add up. -/
namespace Py
open PySem PySem.Spec PyProof.Rows L2 Tc Px
section
variable {B : Bas} {X : Cx} {Γ : List Sl} {pos : Pos} {k : Nat} {E : DE} {N : List Str}
/-- x, y = a, b -/
theorem par_n {i j : Nat} {x y : Str} {a b : Expr} {px py pt : Pos} {kt k2 : Nat} {pt2 : Pos} (c : Bod X k) (nd : N.Nodup) (eN : X.N = N) (hi : idxS X.N x = some i) (hj : idxS X.N y = some j) (hij : Nat.beq i j = false)
    (hx : X.env.scope.names.lookup x = some .local) (hy : X.env.scope.names.lookup y = some .local)
    (hw : swappedStores [.Tuple [.Name x px, .Name y py] kt pt] (.Tuple [a, b] k2 pt2) X.env = pure (some [x, y])) (hs : swapsWithSole [.Tuple [.Name x px, .Name y py] kt pt] (.Tuple [a, b] k2 pt2) pos.line X.env = pure false)
    (h : GA B X [a, b] Γ fun ds Γ1 => ∃ d e, ds = [d, e] ∧ Nat.ble (i + 1) Γ1.length = true ∧ Nat.ble (j + 1) Γ1.length = true ∧ E.nx ((Γ1.set i (.d d)).set j (.d e))) : G1 B X (.Assign [.Tuple [.Name x px, .Name y py] kt pt] (.Tuple [a, b] k2 pt2) pos) Γ E := fun D Hs σ H R S =>
  ps_of (ps_par c.calm (eN ▸ nd) (idxS_ok hi) (idxS_ok hj) (Nat.ne_of_beq_eq_false hij) hx hy pa_W hw hs) (h Hs σ H _ S fun ds Γ1 vs Hs1 H1 ⟨d, e, ed, l1, l2, p⟩ s S1 dv => by
    subst ed
    cases dv with
    | cons a1 r =>
    cases r with
    | cons a2 r =>
    cases r
    refine ⟨_, _, rfl, R.nx _ Hs1 _ H1 p s ((S1.putD (Nat.le_of_ble_eq_true l1) a1).putD (by rw [List.length_set]; exact Nat.le_of_ble_eq_true l2) a2)⟩)
/-- a place of a list, told by a name, among several targets -/
theorem ggs_putn {i ij : Nat} {x j : Str} {p0 ps pj : Pos} {ad : Addr} {ds0 : List PyData} {d : PyData} {ts : List Expr} {ds : List PyData} {φ : List Sl → Prop} {n : Int} {m : Nat} (hN : idxS X.N x = some i) (hΓ : Γ[i]? = some (.own ad ds0)) (hv : Sees X.env.scope x = true)
    (hNj : idxS X.N j = some ij) (hΓj : Γ[ij]? = some (.d (.int n))) (hvj : Sees X.env.scope j = true) (hm : ixN ds0.length n = some m)
    (h : GGs B X ts ds (Γ.set i (.own ad (ds0.set m d))) φ)
    (hd : (x == ("__debug__" : Str)) = false) (hcd : (x == ("__classdict__" : Str)) = false) (hdj : (j == ("__debug__" : Str)) = false) (hcdj : (j == ("__classdict__" : Str)) = false)
    (ha : ∀ v, assign (.Subscript (.Name x p0) (.Name j pj) ps) X.env v = (do
      let ov ← holding [v] (eval (.Name x p0) X.env)
      let iv ← holding [v, ov] (eval (.Name j pj) X.env)
      standAt ps
      holding [v, ov, iv] (setItem ov iv v)
      release [v, ov, iv] []))
    (hs : (assignEach (.Subscript (.Name x p0) (.Name j pj) ps :: ts) X.env).map (·.2) = assign (.Subscript (.Name x p0) (.Name j pj) ps) X.env :: (assignEach ts X.env).map (·.2)) : GGs B X (.Subscript (.Name x p0) (.Name j pj) ps :: ts) (d :: ds) Γ φ :=
  ggs_put hN hΓ hv (fun ψ h => name_e hNj hΓj hvj h hdj hcdj) hm h hd hcd ha hs
end
/-! ### lists of numbers from 0 on -/
theorem ix_k {xs : List PyData} {i : Int} {k : PyData → Prop} (h0 : 0 ≤ i) (h1 : i < xs.length) (h : k (nth xs i.toNat)) : IxD (.list xs) (.int i) k := by
  have l : i.toNat < xs.length := by omega
  refine ⟨nth xs i.toNat, ?_, h⟩
  have e : xs[i.toNat]? = some (nth xs i.toNat) := by
    rw [List.getElem?_eq_getElem l]
    exact congrArg some (nth_at (List.getElem?_eq_getElem l)).symm
  unfold atD ixN
  rw [if_pos h0, if_pos h1]
  exact e
theorem ixN_k {n : Nat} {i : Int} (h0 : 0 ≤ i) (h1 : i < n) : ixN n i = some i.toNat := by
  unfold ixN
  rw [if_pos h0, if_pos h1]
structure Nats (m : Nat) (n : Int) (ds : List PyData) : Prop where
  len : ds.length = m
  nat : ∀ i, i < m → nth ds i = .int (asI (nth ds i)) ∧ 0 ≤ asI (nth ds i)
  sum : (ds.map asI).sum = n
theorem nth_set {ds : List PyData} {k i : Nat} {d : PyData} (h : k < ds.length) : nth (ds.set k d) i = if i = k then d else nth ds i := by
  show (ds.set k d).getD i .none = if i = k then d else ds.getD i .none
  rw [List.getD_eq_getElem?_getD, List.getD_eq_getElem?_getD, List.getElem?_set]
  by_cases e : k = i
  · subst e
    rw [if_pos rfl, if_pos rfl, if_pos h]
    rfl
  · rw [if_neg e, if_neg fun z => e z.symm]
theorem sum_set : ∀ {l : List Int} {k : Nat} {v : Int}, k < l.length → (l.set k v).sum = l.sum + (v - l.getD k 0)
  | x :: r, 0, v, _ => by
    show v + r.sum = x + r.sum + (v - x)
    omega
  | x :: r, k + 1, v, h => by
    have ih := sum_set (l := r) (k := k) (v := v) (by simpa using h)
    show x + (r.set k v).sum = x + r.sum + (v - r.getD k 0)
    omega
theorem Nats.put {m : Nat} {n : Int} {ds : List PyData} (N : Nats m n ds) {k : Nat} {v : Int} (hk : k < m) (hv : 0 ≤ v) : Nats m (n + (v - asI (nth ds k))) (ds.set k (.int v)) := by
  have hl : k < ds.length := by rw [N.len]; exact hk
  refine ⟨by rw [List.length_set]; exact N.len, fun i hi => ?_, ?_⟩
  · rw [nth_set hl]
    by_cases e : i = k
    · rw [if_pos e]
      exact ⟨rfl, hv⟩
    · rw [if_neg e]
      exact N.nat i hi
  · rw [List.map_set]
    rw [sum_set (by rw [List.length_map]; exact hl), N.sum]
    congr 2
    rw [List.getD_eq_getElem?_getD, List.getElem?_map]
    show (Option.map asI ds[k]?).getD 0 = asI (nth ds k)
    rw [List.getElem?_eq_getElem hl, nth_at (List.getElem?_eq_getElem hl)] <;> rfl
end Py
namespace Py
open PySem PySem.Spec PyProof.Rows L2 Tc Px
theorem Nats.snoc {m : Nat} {n v : Int} {ds : List PyData} (N : Nats m n ds) (hv : 0 ≤ v) : Nats (m + 1) (n + v) (ds ++ [.int v]) := by
  have at_ : ∀ i, i ≤ m → nth (ds ++ [PyData.int v]) i = if i = m then .int v else nth ds i := fun i hi => by
    show (ds ++ [PyData.int v]).getD i .none = if i = m then .int v else ds.getD i .none
    rw [List.getD_eq_getElem?_getD, List.getD_eq_getElem?_getD]
    by_cases e : i = m
    · subst e
      rw [if_pos rfl, ← N.len, List.getElem?_append_right (Nat.le_refl _), Nat.sub_self] <;> rfl
    · rw [if_neg e, List.getElem?_append_left (by rw [N.len]; omega)]
  refine ⟨by rw [List.length_append, N.len] <;> rfl, fun i hi => ?_, ?_⟩
  · rw [at_ i (by omega)]
    by_cases e : i = m
    · rw [if_pos e]
      exact ⟨rfl, hv⟩
    · rw [if_neg e]
      exact N.nat i (by omega)
  · rw [List.map_append, List.sum_append, N.sum]
    show n + (v + 0) = n + v
    omega
end Py
/-! A dict that is written and read at once; the lists' comparisons. -/
namespace Py
open PySem PySem.Spec PyProof.Rows L2 Tc Px
end Py
/-! A text walked sign by sign; places of a text. -/
namespace Py
open PySem PySem.Spec PyProof.Rows L2 Tc Px
end Py
/-! A def called by its names, the last one first. -/
namespace Py
open PySem PySem.Spec PyProof.Rows L2 Tc Px
structure CallR (P : Program) (w : World) (K : PySem.W.Frag) (mg : Str → Option Value) (base : Heap) (CX : CXT)
    (k : Nat) (x : Str) (ps : List Str) (sp : Sp) (ns : List Str) : Prop where
  ex : ∃ f fd, FnG P w K mg base CX k f fd ps sp ∧ mg x = some (.ref f) ∧ PySem.W.keepIn K (.ref f) = true ∧
    ∀ (s : Shared) (us : List Value), us.length = ns.length → BindsTo s fd ⟨[], ns.zip us⟩ (ps.zip us.reverse)
theorem vals_rev : ∀ {vs : List V} {us : List Value}, Vals vs us → Vals vs.reverse us.reverse
  | _, _, .nil => .nil
  | _, _, .cons (a := a) (b := b) r h => by
    rw [List.reverse_cons, List.reverse_cons]
    exact Vals.append (vals_rev h) (.cons r .nil)
section
variable {B : Bas} {X : Cx} {Γ : List Sl} {pos : Pos} {k j n : Nat} {P : Program} {w : World} {K : PySem.W.Frag} {mg : Str → Option Value} {base : Heap}
theorem call_R {x : Str} {p : Pos} {ks : List Keyword} {a b : Expr} {n1 n2 : Option Str} {p1 p2 : Pos} {ps ns : List Str} {sp : Sp} {W : WX} (F : CallR X.prog X.w X.K X.mg X.base (L2.CX X.prog X.w) j x ps sp ns) (c : Cxt X k) (hj : j ≤ k) (hg : Gl X x) (tk : Takes X W)
    (hk : ks = [⟨n1, a, p1⟩, ⟨n2, b, p2⟩])
    (hall : (backToKw pos (keywordEach ks X.env)).all (·.1.isSome) = true)
    (hks : (backToKw pos (keywordEach ks X.env)).filterMap (·.1) = ns)
    (hpl : ((backTo pos (starEach [] X.env)).any (·.1) || (backToKw pos (keywordEach ks X.env)).any (·.1.isNone)) = false)
    (hl : ns.length = ps.length) (hdb : (x == ("__debug__" : Str)) = false)
    {σ : L2.St} {H : Hp} {Q : VK} (h : teW X a σ H fun va H1 => teW X b σ H1 fun vb H2 => sp [vb, va] H2 Q fun cl d H' => W cl d σ H') : teW X (.Call (.Name x p) [] ks pos) σ H Q := teI fun pins s I => by
  subst hk
  obtain ⟨f, fd, G, hm, kp, hb⟩ := F.ex
  have PKs : PK X [⟨n1, a, p1⟩, ⟨n2, b, p2⟩] (tCons (teW X a) (tCons (teW X b) tNil)) := pk_cons pe_W (pk_cons pe_W pk_nil)
  refine wpAny_Call_Name_kw (ld_glob I hg hm ?_ hdb)
  refine PySem.W.callWith_KW0 (h₀ := X.base) I.ok.mod.kin kp hall (thn (PKs.run pos pins s σ H (fun vs H2 => sp vs.reverse H2 Q fun cl d H' => W cl d σ H') I h) ?_) hpl
  rintro us s1 ⟨vs, H1, I1, r, q⟩
  refine ⟨I1.kIn, ?_⟩
  rw [hks]
  have l1 := G.len _ _ _ _ q
  rw [List.length_reverse] at l1
  have main := G.run X.A X.stack s1 H1 ⟨[], ns.zip us⟩ us.reverse vs.reverse Q _ (c.room.mono hj) c.gd I1.env0 (hb s1 us (by rw [← r.length, l1, hl])) (vals_rev r) q
  refine wpAny_call (codeAny_mono main ?_)
  intro res s' hq
  cases res with
  | error er => exact tk er s' (XE.of_call I1 (fun _ _ _ h => h) hq)
  | ok fl =>
    cases fl with
    | ret u => exact I1.after hq
    | next | brk | cont => exact False.elim hq
/-- a def of data, called by its names -/
theorem ge_callR {x : Str} {p : Pos} {a b : Expr} {n1 n2 : Option Str} {p1 p2 : Pos} {ps ns : List Str} {pre : List PyData → Prop} {f : List PyData → Out} {ψ : Addr → PyData → List Sl → Prop} {φ : PyData → List Sl → Prop} (hX : SameX X P w K mg base) (F : CallR P w K mg base (L2.CX P w) j x ps (spF 2 pre f) ns) (c : Cxt X k) (hj : Nat.ble j k = true) (hg : Gl X x) (ex : Exc B X ψ)
    (h : GE B X a Γ fun d1 Γ1 => GE B X b Γ1 fun d2 Γ2 => pre [d2, d1] ∧ (f [d2, d1]).to (fun d => φ d Γ2) (fun C d => ψ C d Γ2)) (hdb : (x == ("__debug__" : Str)) = false)
    (hall : (backToKw pos (keywordEach [⟨n1, a, p1⟩, ⟨n2, b, p2⟩] X.env)).all (·.1.isSome) = true)
    (hks : (backToKw pos (keywordEach [⟨n1, a, p1⟩, ⟨n2, b, p2⟩] X.env)).filterMap (·.1) = ns)
    (hpl : ((backTo pos (starEach [] X.env)).any (·.1) || (backToKw pos (keywordEach [⟨n1, a, p1⟩, ⟨n2, b, p2⟩] X.env)).any (·.1.isNone)) = false)
    (hl : ns.length = ps.length) : GE B X (.Call (.Name x p) [] [⟨n1, a, p1⟩, ⟨n2, b, p2⟩] pos) Γ φ := fun Hs σ H Q S g => by
  obtain ⟨rfl, rfl, rfl, rfl, rfl⟩ := hX
  obtain ⟨W, tk, hW⟩ := ex
  refine call_R F c (Nat.le_of_ble_eq_true hj) hg tk rfl hall hks hpl hl hdb (show teW X a σ H _ from h Hs σ H _ S fun d1 Γ1 v1 Hs1 H1 p1 s1 S1 q1 => show teW X b σ H1 _ from p1 Hs1 σ H1 _ S1 fun d2 Γ2 v2 Hs2 H2 ⟨hp, q⟩ s2 S2 q2 => ⟨Hs2, [d2, d1], S2.sub, .cons q2 (.cons (q1.mono s2) .nil), rfl, hp, fun v Hs3 H3 k1 k2 k3 => ?_⟩)
  obtain ⟨s3, S3⟩ := S2.step k3 k1 k2
  cases e : f [d2, d1] with
  | ok d =>
    rw [e] at q
    exact fun dd => g d Γ2 v Hs3 H3 q (s1.trans (s2.trans s3)) S3 dd
  | up C d =>
    rw [e] at q
    exact fun dvv dd hdd => hW C d Γ2 v Hs3 σ H3 q S3 dvv dd hdd
end
end Py
/-! The cells of a def's names, tracked for a while. -/
namespace Py
open PySem PySem.Spec PyProof.Rows L2 Tc Px
end Py
/-! A def is called with a list of function values while the cells that they read are tracked. -/
namespace Py
open PySem PySem.Spec PyProof.Rows L2 Tc Px
end Py
/-! A def of a list that it changes, and that makes lambdas: the tables of lambdas beside. -/
namespace Py
open PySem PySem.Spec PyProof.Rows L2 Tc Px
/-! ### a list of two lambdas -/
theorem _root_.Px.Sx.under {B B2 : Bas} {Hs : Hp} {σ : L2.St} {H : Hp} {Γ : List Sl} (s : Same B.fr B2.fr) (g : Grow B.fr B.hs B2.hs) (t : B2.T = B.T) (S : Sx B2 Hs σ H Γ) : Sx B Hs σ H Γ := by
  have up : ∀ b, B.fr b ≠ none → B2.fr b ≠ none := fun b hb => by
    cases z : B.fr b with
    | none => exact absurd z hb
    | some u => rw [s b u z]; exact fun z => nomatch z
  refine ⟨s.trans S.fr, g.trans (S.gr.mono up), S.sub, S.len, fun i x h => ?_, S.ap, t ▸ S.tb⟩
  have q := S.sl i x h
  cases x with
  | own a ds =>
    obtain ⟨q1, q2, q3⟩ := q
    refine ⟨q1, ?_, q3⟩
    cases z : B.fr a with
    | none => rfl
    | some u => exact absurd q2 (up a (by rw [z]; exact fun z => nomatch z))
  | _ => exact q
theorem _root_.Px.Exc.under {B B2 : Bas} {X : Cx} {ψ : Addr → PyData → List Sl → Prop} (s : Same B.fr B2.fr) (g : Grow B.fr B.hs B2.hs) (t : B2.T = B.T) (h : Exc B X ψ) : Exc B2 X ψ := by
  obtain ⟨W, tk, q⟩ := h
  exact ⟨W, tk, fun C d Γ v Hs σ H p S => q C d Γ v Hs σ H p (S.under s g t)⟩
theorem _root_.Px.Real.under {B B2 : Bas} {D : Ends} {E : DE} {H0 : Hp} (s : Same B.fr B2.fr) (g : Grow B.fr B.hs B2.hs) (t : B2.T = B.T) (R : Real B D E H0) : Real B2 D E H0 :=
  ⟨fun Γ Hs σ H p k S => R.nx Γ Hs σ H p k (S.under s g t), fun d Γ v Hs σ H p k S q => R.rt d Γ v Hs σ H p k (S.under s g t) q, fun Γ Hs σ H p k S => R.bk Γ Hs σ H p k (S.under s g t), fun Γ Hs σ H p k S => R.ct Γ Hs σ H p k (S.under s g t)⟩
open LamX (LamS TabB Tabs CodeO)
end Py
/-! Instances as data: they are made once, by their __init__, and never changed. -/
namespace Py
open PySem PySem.Spec PyProof.Rows L2 Tc Px
/-! ### the fields -/
/-- the field f is given d -/
def putD (f : Str) (d : PyData) : List (PyData × PyData) → List (PyData × PyData)
  | [] => [(.str f, d)]
  | (.str g, e) :: r => if g = f then (.str g, d) :: r else (.str g, e) :: putD f d r
  | p :: r => p :: r
theorem dvn_put {H : Hp} {f : Str} {v : V} {d : PyData} (q : Dv H v d) : ∀ {gs : List (Str × V)} {fs : List (PyData × PyData)}, DvNm H gs fs → DvNm H (putF f v gs) (putD f d fs)
  | _, _, .nil => .cons q .nil
  | _, _, .cons (f := g) (gs := gs) (ds := ds) a r => by
    show DvNm H (if g = f then (g, v) :: gs else (g, _) :: putF f v gs) (if g = f then _ else _)
    by_cases e : g = f
    · rw [if_pos e, if_pos e]
      exact .cons q r
    · rw [if_neg e, if_neg e]
      exact .cons a (dvn_put q r)
theorem dvn_len {H : Hp} : ∀ {gs : List (Str × V)} {fs : List (PyData × PyData)}, DvNm H gs fs → gs.length = fs.length
  | _, _, .nil => rfl
  | _, _, .cons _ r => congrArg Nat.succ (dvn_len r)
/-- the field f -/
def fldD (f : Str) : List (PyData × PyData) → Option PyData
  | [] => none
  | (.str g, e) :: r => if g = f then some e else fldD f r
  | _ :: r => fldD f r
theorem dvn_look {H : Hp} {f : Str} {d : PyData} : ∀ {gs : List (Str × V)} {fs : List (PyData × PyData)}, DvNm H gs fs → fldD f fs = some d → ∃ v, gs.lookup f = some v ∧ Dv H v d
  | _, _, .nil, h => nomatch h
  | _, _, .cons (f := g) (v := v) (gs := gs) (d := e) (ds := ds) a r, h => by
    have h : (if g = f then some e else fldD f ds) = some d := h
    rw [List.lookup_cons]
    by_cases z : g = f
    · rw [if_pos z] at h
      cases h
      subst z
      exact ⟨v, by rw [beq_self_eq_true], a⟩
    · rw [if_neg z] at h
      obtain ⟨u, q1, q2⟩ := dvn_look r h
      exact ⟨u, by rw [show (f == g) = false from beq_eq_false_iff_ne.mpr fun y => z y.symm]; exact q1, q2⟩
theorem inst_of {H : Hp} {v : V} {C : Addr} {fs : List (PyData × PyData)} (q : Dv H v (inst C fs)) : ∃ a dx gs, v = .ref a ∧ H a = some (.ins C dx gs) ∧ DvNm H gs fs := by
  have gen : ∀ {d : PyData}, Dv H v d → d = inst C fs → ∃ a dx gs, v = .ref a ∧ H a = some (.ins C dx gs) ∧ DvNm H gs fs := by
    intro d q e
    cases q with
    | dct h r =>
      cases r with
      | nil => cases e
      | cons a r =>
        rename_i k _ _ _ _
        cases k <;> cases e
    | ins h r =>
      cases e
      exact ⟨_, _, _, rfl, h, r⟩
    | _ => cases e
  exact gen q rfl
/-- what isinstance asks of the class -/
structure KlsD (K : PySem.W.Frag) (C : Addr) : Prop where
  ic : C8.InsC K C
  cls : (PySem.W.clsIn K C).isSome = true
  ty : PySem.W.typeIn K (.ref C) = some (.type "type")
theorem mro_no {a : String} (C : Addr) (h : (fastBuiltinMro a).isSome = true) (hd : a ∈ ["NoneType", "bool", "int", "str", "list", "tuple", "dict"]) : ∃ l, fastBuiltinMro a = some l ∧ l.contains (.ref C) = false := by
  simp only [List.mem_cons, List.not_mem_nil, or_false] at hd
  rcases hd with rfl | rfl | rfl | rfl | rfl | rfl | rfl
  all_goals exact ⟨_, rfl, rfl⟩
theorem kit_no {K : PySem.W.Frag} {C : Addr} {d : PyData} (k : KlsD K C) : PySem.W.kitOne K (.type (tyD d)) (.ref C) = some false := by
  have hs : (fastBuiltinMro (tyD d)).isSome = true := by
    have := metas "int" (.head _) _ (tyD_mem d)
    exact (Bool.and_eq_true_iff.mp this).2
  obtain ⟨l, e1, e2⟩ := mro_no C hs (tyD_mem d)
  unfold PySem.W.kitOne
  rw [if_neg (by rw [show ((Value.type (tyD d)) == (Value.ref C)) = false from beq_eq_false_iff_ne.mpr fun z => nomatch z]; decide)]
  unfold PySem.W.kitCls
  show (if ((PySem.W.clsIn K C).isSome && PySem.W.typeIn K (.ref C) == some (.type "type")) = true then PySem.W.subIn K (.type (tyD d)) (.ref C) else none) = _
  rw [k.cls, k.ty]
  show (fastBuiltinMro (tyD d)).map _ = _
  rw [e1]
  show some (l.contains (Value.ref C)) = _
  rw [e2]
section
variable {B : Bas} {X : Cx} {Γ : List Sl} {pos : Pos} {φ : PyData → List Sl → Prop} {a : Expr} {C : Addr} {P : Program} {w : World} {K : PySem.W.Frag} {mg : Str → Option Value} {base : Heap}
/-- isinstance(x, C) -/
theorem ge_isC {x y : Str} {p py : Pos} (hX : SameX X P w K mg base) (my : mg y = some (.ref C)) (k : KlsD K C) (hx : x = "isinstance") (hg : Gl X x) (hm : mg x = none) (gy : Gl X y)
    (h : GE B X a Γ fun d Γ1 => (notI d = true ∧ φ (.bool false) Γ1) ∨ ∃ fs, d = inst C fs ∧ φ (.bool true) Γ1)
    (he : starEach [a, .Name y py] X.env = (false, eval a X.env) :: starEach [.Name y py] X.env) (he2 : starEach [.Name y py] X.env = (false, eval (.Name y py) X.env) :: starEach [] X.env) (hpl : (backTo pos (starEach [.Name y py] X.env)).any (·.1) = false)
    (hdb : (y == ("__debug__" : Str)) = false) : GE B X (.Call (.Name x p) [a, .Name y py] [] pos) Γ φ := by
  obtain ⟨rfl, rfl, rfl, rfl, rfl⟩ := hX
  subst hx
  refine fun Hs σ H Q S g => pe_of (pe_callB call_isi hg hm (by decide +kernel) (pa_cons pe_W (pa_cons (pe_glob (v := .ref C) gy my rfl hdb) pa_nil he2) he) (he := he) (hpl := hpl)) (show teW X a σ H _ from h Hs σ H _ S fun d Γ1 v Hs1 H1 p s S1 q => ?_)
  have q := q.mono S1.sub
  rcases p with ⟨ni, p⟩ | ⟨fs, rfl, p⟩
  · exact ⟨v, .ref C, _, _, _, rfl, .own C, q.ty ni, kit_no k, g _ Γ1 _ Hs1 H1 p s S1 (.bl _)⟩
  · obtain ⟨b, dx, gs, rfl, hb, _⟩ := inst_of q
    exact ⟨.ref b, .ref C, .ref C, _, _, rfl, .own C, .base (TyOf.ins hb k.ic.cl k.ic.ha k.ic.hn k.ic.htk k.ic.hm), k.ic.me, g _ Γ1 _ Hs1 H1 p s S1 (.bl _)⟩
/-- a property that tells a field -/
structure PropD (P : Program) (w : World) (K : PySem.W.Frag) (mg : Str → Option Value) (base : Heap) (C : Addr) (f g : Str) (j : Nat) : Prop where
  ex : ∃ (pa fa : Addr) (fd : FuncData), PropOf K C f pa fa ∧ FnOk P w K mg base (L2.CX P w) j fa fd ["self"] (getSp C g) ∧ Binds K fd ["self"] []
  cl : Cls K C
theorem passNF {X : Cx} : Passes (L2.CX X.prog X.w) X.nox (fun _ _ _ => False) := fun pins σ H s e s' I c => by
  obtain ⟨_, _, _, _, _, _, _, _, _, _, _, _, h⟩ := c
  exact h.elim
theorem ge_prop {f g : Str} {k j : Nat} (hX : SameX X P w K mg base) (D : PropD P w K mg base C f g j) (c : Cxt X k) (hj : Nat.ble (j + 1) k = true)
    (h : GE B X a Γ fun d Γ1 => ∃ fs d', d = inst C fs ∧ fldD g fs = some d' ∧ φ d' Γ1) (hab : attributeBase a f X.env (eval a X.env) = eval a X.env) : GE B X (.Attribute a f pos) Γ φ := by
  obtain ⟨rfl, rfl, rfl, rfl, rfl⟩ := hX
  obtain ⟨pa, fa, fd, hp, F, hb⟩ := D.ex
  refine fun Hs σ H Q S g0 => pe_of (pe_prop pe_W D.cl hp F (c.room.mono (Nat.le_of_ble_eq_true hj)) hb .nil passNF hab) (show teW X a σ H _ from h Hs σ H _ S fun d Γ1 v Hs1 H1 ⟨fs, d', e, l, p⟩ s S1 q => ?_)
  subst e
  obtain ⟨b, dx, gs, rfl, hb2, nm⟩ := inst_of q
  obtain ⟨u, l2, q2⟩ := dvn_look nm l
  exact ⟨b, dx, gs, rfl, S1.sub _ _ hb2, b, dx, gs, u, rfl, S1.sub _ _ hb2, l2, g0 d' Γ1 u Hs1 H1 p s S1 q2⟩
end
end Py
/-! An instance is made: its __init__ gives it its fields. -/
namespace Py
open PySem PySem.Spec PyProof.Rows L2 Tc Px
/-- what an __init__ gives: the fields, or an error -/
inductive OutI where
  | ok (fs : List (PyData × PyData))
  | up (C : Addr) (d : PyData)
def OutI.to (o : OutI) (Q : List (PyData × PyData) → Prop) (E : Addr → PyData → Prop) : Prop := match o with
  | .ok fs => Q fs
  | .up C d => E C d
def spI (C : Addr) (n : Nat) (pre : List PyData → Prop) (f : List PyData → OutI) : Sp := fun vs H Q E => ∃ (Hs : Hp) (a dx : Addr) (ws : List V) (ds : List PyData), vs = .ref a :: ws ∧ Same Hs H ∧ Hs a = none ∧ H a = some (.ins C dx []) ∧ DvAll Hs ws ds ∧ ds.length = n ∧ pre ds ∧
  ∀ v Hs' H' gs', (∀ b u, H b = some u → b ≠ a → H' b = some u) → Same Hs' H' → Grow H Hs Hs' → H' a = some (.ins C dx gs') → (f ds).to (fun fs => DvNm Hs' gs' fs → v = .non → Q .non H') (fun E' d => Dv Hs' v d → upE E' v H' E)
/-- the statements of an __init__, its fields told -/
def GI0 (F h0 : Hp) (T : List (Addr × Str)) (X : Cx) (a C dx : Addr) (sts : List Stmt) (fs : List (PyData × PyData)) (Γ : List Sl) (fin : List (PyData × PyData) → Prop) : Prop :=
  ∀ (hs Hs : Hp) (gs : List (Str × V)) (σ : L2.St) (H : Hp) (D : Ends), F a = none → hs a = none → Grow F h0 hs → DvNm Hs gs fs → Sx ⟨upd F a (.ins C dx gs), hs, T⟩ Hs σ H Γ →
    (∀ fs' gs' Γ' hs' Hs' σ' H', fin fs' → Grow F h0 hs' → hs' a = none → Sx ⟨upd F a (.ins C dx gs'), hs', T⟩ Hs' σ' H' Γ' → DvNm Hs' gs' fs' → D.nx σ' H') → tssW X sts D σ H
section
variable {F h0 : Hp} {T : List (Addr × Str)} {X : Cx} {a C dx : Addr} {st : Stmt} {sts : List Stmt} {fs : List (PyData × PyData)} {Γ : List Sl} {fin : List (PyData × PyData) → Prop}
theorem gi_nil (h : fin fs) : GI0 F h0 T X a C dx [] fs Γ fin := fun hs Hs gs σ H D fa ha g nm S k => pss_of pss_nil (show D.nx σ H from k fs gs Γ hs Hs σ H h g ha S nm)
theorem gi_st {ψ : Addr → PyData → List Sl → Prop} (ex : ∀ gs hs, Grow F h0 hs → hs a = none → Exc ⟨upd F a (.ins C dx gs), hs, T⟩ X ψ) (h : ∀ gs hs, Exc ⟨upd F a (.ins C dx gs), hs, T⟩ X ψ → G1 ⟨upd F a (.ins C dx gs), hs, T⟩ X st Γ { nx := fun Γ' => GI0 F h0 T X a C dx sts fs Γ' fin, rt := fun _ _ => False }) : GI0 F h0 T X a C dx (st :: sts) fs Γ fin :=
  fun hs Hs gs σ H D fa ha g nm S k => pss_of (pss_cons (u := tssW X sts) ps_W pss_W) (show tsW X st { D with nx := tssW X sts D } σ H from
    h gs hs (ex gs hs g ha) { D with nx := tssW X sts D } Hs σ H ⟨fun Γ' Hs' σ' H' p s' S' => p hs Hs' gs σ' H' D fa ha g (nm.mono s') S' k, fun _ _ _ _ _ _ z => z.elim, fun _ _ _ _ z => z.elim, fun _ _ _ _ z => z.elim⟩ S)
theorem gi_fld {x f : Str} {i : Nat} {px ap pos : Pos} {e : Expr} (cl : Cls X.K C) (no : NoAttr X.K C f) (hl : fs.length < 1000) (hN : idxS X.N x = some i) (hv : Sees X.env.scope x = true) (hΓ : Γ[i]? = some (.v (.ref a)))
    (h : ∀ gs hs, GE ⟨upd F a (.ins C dx gs), hs, T⟩ X e Γ fun d Γ1 => Γ1 = Γ ∧ GI0 F h0 T X a C dx sts (putD f d fs) Γ fin)
    (hd : (x == ("__debug__" : Str)) = false) (hcd : (x == ("__classdict__" : Str)) = false) (hs1 : swapsWith e (some (.Attribute (.Name x px) f ap)) pos.line X.env = pure false) : GI0 F h0 T X a C dx (.Assign [.Attribute (.Name x px) f ap] e pos :: sts) fs Γ fin := by
  intro hs Hs gs σ H D fa ha g nm S k
  refine pss_of (pss_cons (u := tssW X sts) ps_W pss_W) (show tsW X _ { D with nx := tssW X sts D } σ H from ps_of (ps_fld (pe_var (idxS_ok hN) (sees_ok hv) hd hcd) pe_W hs1) ?_)
  refine show teW X e σ H _ from h gs hs Hs σ H _ S fun d Γ1 v Hs1 H1 ⟨eΓ, p⟩ s1 S1 q => ?_
  subst eΓ
  obtain ⟨S2, hb, nb, ab⟩ := S1.loose g fa ha
  refine ⟨.ref a, S.val hΓ, a, C, dx, gs, rfl, hb, cl, no, by rw [dvn_len nm]; exact hl, ?_⟩
  have S3 := S2.beside (o := .ins C dx (putF f v gs)) hb rfl nb fa ab
  have S4 := S3.hold upd_same nb fa ab
  exact p Hs1 Hs1 (putF f v gs) σ _ D fa nb S2.gr (dvn_put q (nm.mono s1)) S4 k
end
section
variable {P : Program} {w : World} {K : PySem.W.Frag} {mg : Str → Option Value} {base : Heap}
theorem fn_init {x qual : Str} {st : Stmt} {f C : Addr} {fd : FuncData} {N ps : List Str} {k n : Nat} (F : Fun K x qual st f fd) (S : FnScope N ps (defScope st)) (sm : ∃ o, K.lookup sysModules = some o) (hn : ps.length = n + 1) (pre : List PyData → Prop) (fI : List PyData → OutI)
    (body : ∀ (cdv : Value) (A : Around) (outer : List Env) (s : Shared) (H : Hp) (E : XK) (G Hs : Hp) (a dx : Addr) (ds : List PyData), ds.length = n → pre ds →
      Bod (cxOf (L2.CX P w) P w K mg base N qual (defScope st) f cdv A outer s H E) k → (∀ gs hs, Grow G Hs hs → hs a = none → Exc ⟨upd G a (.ins C dx gs), hs, []⟩ (cxOf (L2.CX P w) P w K mg base N qual (defScope st) f cdv A outer s H E) (fun C' d _ => fI ds = .up C' d)) →
      GI0 G Hs [] (cxOf (L2.CX P w) P w K mg base N qual (defScope st) f cdv A outer s H E) a C dx (defBody st) [] (slots0 N (.v (.ref a) :: ds.map .d)) fun fs => fI ds = .ok fs) :
    FnG P w K mg base (L2.CX P w) (k + 1) f fd ps (spI C n pre fI) := by
  refine Fun.okG F S (fun vs H Q E h => ?_) (fun cdv A outer s H vs Q E hr hgd h => ?_)
  · obtain ⟨Hs, a, dx, ws, ds, rfl, _, _, _, d, l, _⟩ := h
    rw [List.length_cons, d.len, l, hn]
  · obtain ⟨Hs, a, dx, ws, ds, rfl, sub, na, ha, dv, l, hp, q⟩ := h
    have tk := takes_of (X := cxOf (L2.CX P w) P w K mg base N qual (defScope st) f cdv A outer s H E) (E := E) rfl rfl rfl rfl
    -- all but the instance
    generalize hG : (fun b => if b = a then none else H b : Hp) = G
    have Ga : G a = none := by rw [← hG]; exact if_pos rfl
    have Gb : ∀ b, b ≠ a → G b = H b := fun b hb => by rw [← hG]; exact if_neg hb
    have up : upd G a (.ins C dx []) = H := by
      funext b
      by_cases z : b = a
      · rw [z, upd_same, ha]
      · rw [upd_ne z, Gb b z]
    have S0 : Sx ⟨upd G a (.ins C dx []), Hs, []⟩ Hs (L2.start N (.ref a :: ws)) H (slots0 N (.v (.ref a) :: ds.map .d)) := by
      refine ⟨by show Same (upd G a _) H; rw [up]; exact Same.refl _, Grow.refl _ _, sub, ?_, fun i t h => ?_, fun i j b es c fs h1 h2 n => ?_, tabs_nil⟩
      · show ((V.ref a :: ws).map some ++ List.replicate _ none).length = ((Sl.v (.ref a) :: ds.map Sl.d) ++ _).length
        simp only [List.length_append, List.length_map, List.length_replicate, List.length_cons, dv.len]
      · rcases slots_get h with rfl | h
        · exact trivial
        · cases i with
          | zero =>
            have e : t = .v (.ref a) := (Option.some.inj h).symm
            subst e
            exact start_get rfl
          | succ i =>
            obtain ⟨d, e, rfl⟩ := map_get (show (ds.map Sl.d)[i]? = some t from h)
            obtain ⟨v, ev, q⟩ := dvs_get dv e
            exact ⟨v, start_get (show (V.ref a :: ws)[i + 1]? = some v from ev), q⟩
      · rcases slots_get h1 with z | z
        · cases z
        · cases i with
          | succ i =>
            obtain ⟨d, _, z⟩ := map_get (show (ds.map Sl.d)[i]? = _ from z)
            cases z
          | zero => cases z
    have gG : ∀ {hs' : Hp}, Grow G Hs hs' → hs' a = none → Grow H Hs hs' := fun g n => ⟨g.same, fun b nb fb => by
      by_cases z : b = a
      · rw [z]
        exact n
      · exact g.off b nb (by rw [Gb b z]; exact fb)⟩
    refine ⟨_, pss_W, body cdv A outer s H E G Hs a dx ds l hp ⟨⟨hr, hgd, sm⟩, S.nd, rfl, PassesOwn.leaving⟩ (fun gs hs g n => ⟨_, tk, fun C' d Γ v Hs' σ' H' e T dvv dd hdd => ?_⟩) Hs Hs [] _ H _ Ga na (Grow.refl _ _) .nil S0 fun fs' gs' Γ' hs' Hs' σ' H' e g n T nm => ?_⟩
    · obtain ⟨T2, hb, nb, ab⟩ := T.loose g Ga n
      have z := q v Hs' H' gs (fun b u eb nb' => T2.fr b u (by show G b = some u; rw [Gb b nb']; exact eb)) T2.sub (gG T2.gr nb) hb
      rw [show fI ds = .up C' d from e] at z
      exact z dvv dd hdd
    · obtain ⟨T2, hb, nb, ab⟩ := T.loose g Ga n
      have z := q .non Hs' H' gs' (fun b u eb nb' => T2.fr b u (by show G b = some u; rw [Gb b nb']; exact eb)) T2.sub (gG T2.gr nb) hb
      rw [show fI ds = .ok fs' from e] at z
      exact z nm rfl
end
end Py
/-! C(..): an instance is made. -/
namespace Py
open PySem PySem.Spec PyProof.Rows L2 Tc Px
theorem make_guards {A : Around} {C : Addr} {us : List Value} {kw : List (Str × Value)} (h : A.guards = some []) : (A.under (.builtin "type.__call__" ⟨.ref C :: us, kw⟩)).guards = some [] := by
  have e : (A.under (.builtin "type.__call__" ⟨.ref C :: us, kw⟩)).guards = PySem.pushGuards (Code.guards (.builtin "type.__call__" ⟨.ref C :: us, kw⟩)) A.guards := rfl
  rw [e, h, show Code.guards (.builtin "type.__call__" ⟨.ref C :: us, kw⟩) = [] from by simp [Code.guards, Code.isGuard, show ¬ "type.__call__" ∈ guardIds from by decide +kernel]]
  rfl
section
variable {X : Cx} {k : Nat} {C f : Addr} {fd : FuncData} {ps : List Str} {sp : Sp} {E : XK} {σ : L2.St} {H : Hp} {s : Shared} {Q : VK} {pins : Pins}
theorem run_makeG {us : List Value} {vs : List V} (M : Mk X.K C f) (F : FnG X.prog X.w X.K X.mg X.base (L2.CX X.prog X.w) k f fd ps sp) (hr : Room (k + 1) X.A) (hgd : X.A.guards = some []) (hb : Binds X.K fd ps [])
    (hx : PassesAt (L2.CX X.prog X.w) X σ E) (I : Inv X pins σ H s) (r : Vals vs us)
    (h : ∀ x dx, H x = none → H dx = none → dx ≠ x → sp (.ref x :: vs) (upd (upd H dx (.own x)) x (.ins C dx [])) (fun v H2 => v = .non ∧ Q (.ref x) H2) E) :
    wpAny (model X.prog X.w) X.A (call (.ref C) us) (EP X pins σ Q) X.xe s := by
  have hq := h (s.heap.objs.size + 1) s.heap.objs.size (I.hok.fresh (Nat.le_succ _)) (I.hok.fresh (Nat.le_refl _)) (Nat.ne_of_lt (Nat.lt_succ_self _))
  have I2 := Inv.made (C := C) I
  have r2 : Vals (V.ref (s.heap.objs.size + 1) :: vs) (Value.ref (s.heap.objs.size + 1) :: us) := .cons rfl r
  have hl : (Value.ref (s.heap.objs.size + 1) :: us ++ []).length = ps.length := by
    rw [List.append_nil]
    have e := r2.length
    rw [F.len _ _ _ _ hq] at e
    exact e.symm
  have bd := hb _ (Value.ref (s.heap.objs.size + 1) :: us) I2.kIn hl
  rw [List.append_nil] at bd
  refine wpAny_call (make_map (f := f) I.kIn M.makes M.init (beq_iff_eq.mp M.fn) (codeAny_mono (F.run _ X.stack _ _ ⟨Value.ref (s.heap.objs.size + 1) :: us, []⟩ (Value.ref (s.heap.objs.size + 1) :: us) _ _ E (hr.make C us []) (make_guards hgd)
    (I2.env0.make C us []) bd r2 hq) fun r s' hq' => ?_))
  cases r with
  | error e => exact hx pins _ _ e s' I2 hq'
  | ok fl =>
    cases fl with
    | ret u =>
      obtain ⟨v, H', I3, rv, ev, q3⟩ := I2.after hq'
      subst ev
      exact ⟨rv, ⟨V.ref (s.heap.objs.size + 1), H', I3, rfl, q3⟩⟩
    | next => exact False.elim hq'
    | brk => exact False.elim hq'
    | cont => exact False.elim hq'
end
/-- a class whose instances are made by its __init__ -/
structure MakeD (P : Program) (w : World) (K : PySem.W.Frag) (mg : Str → Option Value) (base : Heap) (j : Nat) (x : Str) (C : Addr) (n : Nat) (ps : List Str) (pre : List PyData → Prop) (fI : List PyData → OutI) : Prop where
  ex : ∃ (f : Addr) (fd : FuncData), Mk K C f ∧ FnG P w K mg base (L2.CX P w) j f fd ps (spI C n pre fI) ∧ Binds K fd ps []
  gm : mg x = some (.ref C)
section
variable {B : Bas} {X : Cx} {Γ : List Sl} {pos : Pos} {k j n : Nat} {C : Addr} {P : Program} {w : World} {K : PySem.W.Frag} {mg : Str → Option Value} {base : Heap}
theorem ge_make {x : Str} {p : Pos} {e : Expr} {es : List Expr} {ps : List Str} {pre : List PyData → Prop} {fI : List PyData → OutI} {ψ : Addr → PyData → List Sl → Prop} {φ : PyData → List Sl → Prop} (hX : SameX X P w K mg base) (M : MakeD P w K mg base j x C n ps pre fI) (c : Cxt X k) (hj : Nat.ble (j + 1) k = true) (hg : Gl X x) (ex : Exc B X ψ)
    (h : GA B X (e :: es) Γ fun ds Γ1 => ds.length = n ∧ pre ds ∧ (fI ds).to (fun fs => φ (inst C fs) Γ1) (fun C' d => ψ C' d Γ1)) (hdb : (x == ("__debug__" : Str)) = false)
    (he : starEach (e :: es) X.env = (false, eval e X.env) :: starEach es X.env) (hpl : (backTo pos (starEach es X.env)).any (·.1) = false) : GE B X (.Call (.Name x p) (e :: es) [] pos) Γ φ := by
  obtain ⟨rfl, rfl, rfl, rfl, rfl⟩ := hX
  obtain ⟨f, fd, Mm, F, hb⟩ := M.ex
  intro Hs σ H Q S g
  obtain ⟨W, tk, hW⟩ := ex
  refine teI fun pins s I => ?_
  refine wpAny_Call_Name_kw (ld_glob I hg M.gm ?_ hdb)
  refine PySem.W.callWith_K (h₀ := X.base) I.ok.mod.kin Mm.kp (thn (taE (h Hs σ H _ S fun ds Γ1 vs Hs1 H1 p s1 S1 dv => ?_ : taW X (e :: es) σ H fun vs H1 => ∀ x dx, H1 x = none → H1 dx = none → dx ≠ x → spI C n pre fI (.ref x :: vs) (upd (upd H1 dx (.own x)) x (.ins C dx [])) (fun v H2 => v = .non ∧ Q (.ref x) H2) fun cl d H' => W cl d σ H') pos pins s I) ?_) he hpl
  · obtain ⟨l, hp, q⟩ := p
    intro y dx hy hd ne
    have ny : ∀ b u, H1 b = some u → b ≠ y := fun b u e z => by rw [z, hy] at e; cases e
    have nd : ∀ b u, H1 b = some u → b ≠ dx := fun b u e z => by rw [z, hd] at e; cases e
    have k1 : Same H1 (upd (upd H1 dx (.own y)) y (.ins C dx [])) := fun b u e => by rw [upd_ne (ny b u e), upd_ne (nd b u e)]; exact e
    refine ⟨Hs1, y, dx, vs, ds, rfl, S1.sub.trans k1, S1.sub.free hy, upd_same, dv, l, hp, fun v Hs2 H2 gs r1 r2 r3 r4 => ?_⟩
    have k2 : Same H1 H2 := fun b u e => r1 b u (k1 b u e) (ny b u e)
    have ny2 : Hs2 y = none := r3.off y (S1.sub.free hy) (by rw [upd_same]; exact fun z => nomatch z)
    have g2 : Grow H1 Hs1 Hs2 := ⟨r3.same, fun b n f => by
      cases z : H1 b with
      | none => exact absurd z f
      | some u => exact r3.off b n (by rw [k1 b u z]; exact fun z => nomatch z)⟩
    cases e : fI ds with
    | ok fs =>
      rw [e] at q
      intro nm hv
      refine ⟨rfl, ?_⟩
      have g3 : Grow H1 Hs1 (upd Hs2 y (.ins C dx gs)) := g2.trans ⟨Same.new ny2, fun b n f => by
        cases z : H1 b with
        | none => exact absurd z f
        | some u => rw [upd_ne (ny b u z)]; exact n⟩
      have u3 : Same (upd Hs2 y (.ins C dx gs)) H2 := fun b u e => by
        by_cases z : b = y
        · rw [z, upd_same] at e
          rw [z, r4]
          exact e
        · rw [upd_ne z] at e
          exact r2 b u e
      obtain ⟨s2, S2⟩ := S1.step g3 k2 u3
      exact g _ Γ1 (.ref y) _ H2 q (s1.trans s2) S2 (.ins upd_same (nm.mono (Same.new ny2)))
    | up C' d =>
      rw [e] at q
      obtain ⟨s2, S2⟩ := S1.step g2 k2 r2
      exact fun dvv dd hdd => hW C' d Γ1 v Hs2 σ H2 q S2 dvv dd hdd
  · rintro us s1 ⟨vs, H1, I1, r, q⟩
    exact ⟨I1.kIn, run_makeG Mm F (c.room.mono (Nat.le_of_ble_eq_true hj)) c.gd hb (fun pins H s e s' I c => tk e s' (XE.of_call I (fun _ _ _ h => h) c)) I1 r q⟩
end
end Py
/-! Stars in displays, xs[::-1], a while that isn't entered. -/
namespace Py
open PySem PySem.Spec PyProof.Rows L2 Tc Px
section
variable {B : Bas} {X : Cx} {Γ : List Sl} {pos : Pos} {E : DE}
theorem dvs_app {H : Hp} {vs ws : List V} {ds es : List PyData} (a : DvAll H vs ds) (b : DvAll H ws es) : DvAll H (vs ++ ws) (ds ++ es) := dvs_append a b
theorem ga_star (kq : Bool) {e : Expr} {p : Pos} {es : List Expr} {φ : List PyData → List Sl → Prop} (h : GQ B X kq e Γ fun ds Γ1 => GA B X es Γ1 fun rs Γ2 => φ (ds ++ rs) Γ2) (hs : starEach (.Starred e p :: es) X.env = (true, eval e X.env) :: starEach es X.env) : GA B X (.Starred e p :: es) Γ φ := fun Hs σ H Q S g =>
  pa_of (StX.pa_star pe_W pa_W hs) (h Hs σ H _ S fun ds Γ1 a vs Hs1 H1 p s1 S1 hq dv => ⟨a, vs, rfl, by cases kq with | true => exact .inr hq | false => exact .inl hq, p Hs1 σ H1 _ S1 fun rs Γ2 ws Hs2 H2 q s2 S2 dvs => g (ds ++ rs) Γ2 (vs ++ ws) Hs2 H2 q (s1.trans s2) S2 (dvs_app (dv.mono s2) dvs)⟩)
theorem dvs_rev {H : Hp} : ∀ {vs : List V} {ds : List PyData}, DvAll H vs ds → DvAll H vs.reverse ds.reverse
  | _, _, .nil => .nil
  | _, _, .cons a r => by
    rw [List.reverse_cons, List.reverse_cons]
    exact dvs_app (dvs_rev r) (.cons a .nil)
theorem gf_rev {e : Expr} {k : Nat} {p1 p2 p3 : Pos} {φ : List PyData → List Sl → Prop} (h : GQ B X true e Γ fun ds Γ1 => φ ds.reverse Γ1) : GF B X (.Subscript e (.Slice none none (some (.UnaryOp .USub (.Constant (.int 1) k p1) p2)) p3) pos) Γ φ := fun Hs σ H Q S g =>
  pe_of (pe_revL pe_W) (h Hs σ H _ S fun ds Γ1 a vs Hs1 H1 p s1 S1 hq dv => ⟨a, vs, rfl, hq, fun q hq2 => by
    obtain ⟨f, n, al⟩ := alone_new S1 hq2
    exact g ds.reverse Γ1 q vs.reverse Hs1 _ p s1 (S1.aside hq2) f n al upd_same (dvs_rev dv)⟩)
end
end Py
/-! enumerate of a tuple. -/
namespace PySem
open Sem (wp)
open AutoSeq1 (wpAny_loadPart')
theorem meets_enumerate_newTp (l : Addr) (items : Array Value) (n : Nat) (dct : Option Addr) (sl : Array (Option Value)) :
    Meets (Builtin.«enumerate.__new__» ⟨[.type "enumerate", .ref l], []⟩) (fun _ R s => s.heap.get? l = some { cls := .type "tuple", dict := dct, data := .seq items n, slots := sl } ∧
      R (.ok (.ret (.ref (s.heap.push { cls := .type "tuple_iterator", data := .fields #[.ref l, .int 0 0] }).objs.size)))
        { s with heap := (s.heap.push { cls := .type "tuple_iterator", data := .fields #[.ref l, .int 0 0] }).push { cls := .type "enumerate", data := .fields #[.none, .bool false, .ref s.heap.objs.size, rawInt 0, .none, .none] } }) :=
  .of_wp fun prog w A R s h => by
    obtain ⟨hp, g, d, tk, os⟩ := s; obtain ⟨hl, h⟩ := h
    have hsub := sub_enumerate
    have hL : Heap.IsTuple (Shared.heap ⟨hp, g, d, tk, os⟩) l items := ⟨_, hl, rfl, n, rfl⟩
    wp_walk using wpAny_loadPart' hl
    refine wpAny_stack_any fun st => wpAny_pure ?_
    split
    · rename_i c _ _ _ _ _
      cases (c == Value.type "enumerate")
      · wp_walk using wpAny_loadPart' hl, wpAny_pyIter_tuple hL
        exact ⟨_, rfl, h⟩
      · wp_walk using wpAny_loadPart' hl, wpAny_pyIter_tuple hL
        exact ⟨_, rfl, h⟩
    · wp_walk using wpAny_loadPart' hl, wpAny_pyIter_tuple hL
      exact ⟨_, rfl, h⟩
section
variable {prog : Program} {w : World} {A : Around} {E : Value → Shared → Prop} {s : Shared}
theorem call_enumerate_tup {l : Addr} {items : Array Value} {Q : Value → Shared → Prop} (hL : s.heap.IsTuple l items)
    (h : ∀ h', IsEnum h' (s.heap.objs.size + 1) s.heap.objs.size 0 .none → h'.IsTupleIter s.heap.objs.size l 0 → h'.objs.size = s.heap.objs.size + 2 →
      (∀ b o, s.heap.get? b = some o → h'.get? b = some o) → Q (.ref (s.heap.objs.size + 1)) { s with heap := h' }) :
    wpAny (model prog w) A (call (.type "enumerate") [.ref l]) Q E s := by
  obtain ⟨⟨c, dct, dt, sl⟩, hl, hc, n, hd⟩ := hL
  replace hc : c = .type "tuple" := hc
  replace hd : dt = .seq items n := hd
  subst hc hd
  refine callType_new F.called_enumerate (by decide) (F.typeCall_enumerate_1 _) (F.newCall_enumerate_1 _) (fun obj => F.args_object_init_2 obj _) F.entry_enumerate_new
    (meets_enumerate_newTp l items n dct sl) ⟨hl, ?_⟩
  have hz : (s.heap.push { cls := .type "tuple_iterator", data := .fields #[.ref l, .int 0 0] }).objs.size = s.heap.objs.size + 1 := Heap.size_push ..
  show _ ∧ _
  rw [hz]
  have he : IsEnum ((s.heap.push { cls := .type "tuple_iterator", data := .fields #[.ref l, .int 0 0] }).push
      { cls := .type "enumerate", data := .fields #[.none, .bool false, .ref s.heap.objs.size, rawInt 0, .none, .none] }) (s.heap.objs.size + 1) s.heap.objs.size 0 .none := by
    have := Heap.get?_push_size (s.heap.push { cls := .type "tuple_iterator", data := .fields #[.ref l, .int 0 0] })
      (o := { cls := .type "enumerate", data := .fields #[.none, .bool false, .ref s.heap.objs.size, rawInt 0, .none, .none] }) rfl
    rw [hz] at this; exact this
  refine ⟨⟨_, he, rfl⟩, h _ he ⟨_, Heap.get?_push_of_some _ (Heap.get?_push_size _ rfl), rfl, rfl⟩ (by rw [Heap.size_push, hz]) fun b o x => Heap.get?_push_of_some _ (Heap.get?_push_of_some _ x)⟩
end
end PySem
namespace Tz
open PySem PySem.Spec PyProof.Rows L2
theorem draws_tup {prog : Program} {w : World} {A : Around} {it a : Addr} {xs : Array Value} (hh : A.handled = none) (ne : a ≠ it) :
    Draws prog w A it [it, a] xs.size (fun i x => xs[i]? = some x) (fun i h => Run2 false h it a i ∧ Seq2 false h a xs) where
  live := fun i h st => by
    obtain ⟨o, _, e, _⟩ := st.1.obj
    exact ⟨o, e⟩
  frame := fun i h h' st k => ⟨st.1.on fun o e => k it (by simp) o e, by
    obtain ⟨o, e, r⟩ := (st.2 : h.IsTuple a xs)
    exact ⟨o, k a (by simp) o e, r⟩⟩
  item := fun i s Q E hi st hQ => by
    obtain ⟨r, q⟩ := st
    have e : xs[i]? = some xs[i] := Array.getElem?_eq_getElem hi
    exact step_one r q e fun h' r' sb => hQ xs[i] h' s.toks e ⟨r', q.but sb.extBut ne⟩ sb
  done := fun s Q E st hE => by
    obtain ⟨r, q⟩ := st
    exact step_end hh r q (by simp) hE
/-- the tuple at a as it stands at each turn, each item in a new pair -/
def Itet (K : PySem.W.Frag) (a : Addr) : It :=
  ⟨fun i H => ∃ (xs : List V) (x : V), SqT K H a xs ∧ xs[i]? = some x, fun i H v H' => ∃ T x, v = .ref T ∧ H T = none ∧ H' = upd H T (.tup [.int (i : Nat), x]) ∧ ∀ xs, SqT K H a xs → xs[i]? = some x, fun i H => ∃ xs : List V, SqT K H a xs ∧ xs.length = i⟩
theorem turn_enumT {P : Program} {w : World} {K : PySem.W.Frag} {elts : List Expr} {kk : Nat} {tpos : Pos} (a e it : Addr) :
    Turn P w K (.Tuple elts kk tpos) (Itet K a) [e, it] e (fun i h => (∃ old, IsEnum h e it ((i : Nat) : Int) old) ∧ h.IsTupleIter it a i ∧ e ≠ it) where
  mem := by simp
  obj := fun i h st b hb => by
    obtain ⟨⟨old, he⟩, ⟨o, ho, hc, hd⟩, _⟩ := st
    have e' : b = e ∨ b = it := by simpa using hb
    rcases e' with z | z
    · rw [z]; exact ⟨_, he, fun v q => nomatch q⟩
    · rw [z]; exact ⟨o, ho, fun v q => by rw [hd] at q; cases q⟩
  keep := fun i h h' st k => let ⟨⟨old, he⟩, hi, hne⟩ := st; ⟨⟨old, k e (by simp) _ he⟩, hi.at fun o q => k it (by simp) o q, hne⟩
  item := by
    intro X hP hw hK hc i pins s σ H E I hf st hg
    subst hP hw hK
    obtain ⟨⟨old, he⟩, hit, hne⟩ := st
    obtain ⟨xs, x, hq, hx⟩ := hg
    obtain ⟨its, rv, p, hz⟩ := I.tuple hq
    obtain ⟨u, hu, ru⟩ := rv.get hx
    have hel : e < s.heap.objs.size := Heap.lt_size he
    have hil : it < s.heap.objs.size := by obtain ⟨_, q, _⟩ := hit; exact Heap.lt_size q
    have p : s.heap.IsTuple a its.toArray := p
    have nea : e ≠ a := fun z => by
      obtain ⟨o, e1, _, n, e3⟩ := p
      rw [← z, he] at e1
      cases e1
      cases e3
    have nit : a ≠ it := fun z => by
      obtain ⟨o, e1, _, n, e3⟩ := p
      obtain ⟨o2, e4, _, e5⟩ := hit
      rw [z, e4] at e1
      cases e1
      rw [e3] at e5
      cases e5
    have hd : X.A.in1.handled = none := I.ok.hd hc
    have D := draws_tup (prog := X.prog) (w := X.w) (xs := its.toArray) hd nit
    refine wpAny_pyNext_enum_itemD D he ⟨hit, p⟩ (i := i) (by
      have := (List.getElem?_eq_some_iff.mp hu).1
      simpa using this) hne (by simp [hne, nea]) fun u2 h' tk hu2 ho st' hT hsz hk => ?_
    have eu : u2 = u := by
      have : its[i]? = some u2 := by simpa using hu2
      rw [hu] at this
      exact (Option.some.inj this).symm
    subst eu
    obtain ⟨hit', p'⟩ := st'
    have hit' : h'.IsTupleIter it a (i + 1) := hit'
    refine ⟨_, rfl, wpAny_letOwnedTupleGo_enum (s := { s with heap := h', toks := tk + 1 }) ho fun h'' he' sb => ?_⟩
    have hT2 : h''.get? s.heap.objs.size = some { cls := .type "tuple", data := .seq #[.int i tk, u2] } := (sb.2 _ (Nat.ne_of_gt hel)).trans hT
    have new : ObjOk X.prog X.w (upd H s.heap.objs.size (.tup [.int (i : Nat), x])) h'' s.heap.objs.size (.tup [.int (i : Nat), x]) :=
      ⟨by show 2 ≤ sizeLine; decide, [.int i tk, u2], .cons ⟨_, rfl⟩ (.cons ru .nil), ⟨_, hT2, rfl, _, rfl⟩⟩
    have I1 : Inv X pins σ (upd H s.heap.objs.size (.tup [.int (i : Nat), x])) { s with heap := h'', toks := tk + 1 } :=
      I.turnedNew (ch := [e, it]) (fun b ob hb q => (sb.2 b (fun z => hb (by simp [z]))).trans (hk b ob (fun z => hb (by simp [z])) (fun z => hb (by simp [z])) q)) hf (Nat.le_refl _) new
    refine ⟨.ref s.heap.objs.size, _, I1, rfl, ⟨_, x, rfl, I.hok.fresh (Nat.le_refl _), rfl, fun ys hy => by rw [I.tuple_inj hy hq]; exact hx⟩, ⟨⟨u2, ?_⟩, hit'.at fun o q => (sb.2 it (Ne.symm hne)).trans q, hne⟩, fun b hb => ?_⟩
    · have e1 : ((i + 1 : Nat) : Int) = (i : Int) + 1 := by omega
      rw [e1]; exact he'
    · have hb' : b < s.heap.objs.size := by
        have e' : b = e ∨ b = it := by simpa using hb
        rcases e' with z | z
        · rw [z]; exact hel
        · rw [z]; exact hil
      rw [upd_ne (Nat.ne_of_lt hb')]
      exact (hf b hb).1
  done := by
    intro X hP hw hK hc i pins s σ H E I hf st hg
    subst hP hw hK
    obtain ⟨⟨old, he⟩, hit, hne⟩ := st
    obtain ⟨xs, hq, hx⟩ := hg
    obtain ⟨its, rv, p, hz⟩ := I.tuple hq
    obtain ⟨f0, f1, f2, f3, f4, f5⟩ := hf it (by simp)
    have hl := rv.length
    have p : s.heap.IsTuple a its.toArray := p
    have nit : a ≠ it := fun z => by
      obtain ⟨o, e1, _, n, e3⟩ := p
      obtain ⟨o2, e4, _, e5⟩ := hit
      rw [z, e4] at e1
      cases e1
      rw [e3] at e5
      cases e5
    have hd : X.A.in1.handled = none := I.ok.hd hc
    have D := draws_tup (prog := X.prog) (w := X.w) (xs := its.toArray) hd nit
    have en : i = its.toArray.size := by rw [List.size_toArray]; omega
    exact wpAny_pyNext_enum_endD D he (by rw [← en]; exact ⟨hit, p⟩) fun h' eb => ⟨rfl, I.turned (t' := s.toks) (fun b o hb q => eb b o hb q) f0 f1 f3 f4 f5⟩
  self := fun A i s Q E st h => let ⟨⟨_, he⟩, _⟩ := st; wpAny_pyIter_enum he h
def iEnumT (K : PySem.W.Frag) (ta : TA) : TI := fun σ H R => ta σ H fun vs H1 => ∃ a xs, vs = [.ref a] ∧ SqT K H1 a xs ∧ R (Itet K a) H1
theorem pi_enumT {X : Cx} {e : Expr} {ta : TA} {p pos tpos : Pos} {elts : List Expr} {kk : Nat} (hg : Gl X "enumerate") (hm : X.mg "enumerate" = none) (ha : PA X [e] ta) (hs : starEach [e] X.env = [(false, eval e X.env)]) :
    PI X (.Tuple elts kk tpos) (.Call (.Name "enumerate" p) [e] [] pos) (iEnumT X.K ta) := by
  refine ⟨fun pins s σ H R I h => ?_⟩
  refine Call_ (ld_blt I hg hm boot_enumerate (PyProof.Rows.callWith_type1 (thn (ha.run pos pins s σ H _ I h) fun us s1 ⟨vs, H1, I1, r1, q1⟩ => ?_) hs rfl))
  obtain ⟨a, xs, ex, hq, q⟩ := q1
  subst ex
  cases r1 with
  | cons r rr =>
    cases rr
    cases r
    obtain ⟨its, rv, p', hz⟩ := I1.tuple hq
    refine call_enumerate_tup (show s1.heap.IsTuple a its.toArray from p') fun h' he hit hsz hk => wpAny_pyIter_enum he ?_
    have I2 : Inv X pins σ H1 { s1 with heap := h' } := I1.kept (t' := s1.toks) hk
    refine ⟨s1.heap.objs.size + 1, [s1.heap.objs.size + 1, s1.heap.objs.size], _, _, H1, rfl, I2, turn_enumT a (s1.heap.objs.size + 1) s1.heap.objs.size, ⟨⟨.none, he⟩, hit, Nat.succ_ne_self _⟩, fun b hb => ?_, q⟩
    have e' : b = s1.heap.objs.size + 1 ∨ b = s1.heap.objs.size := by simpa using hb
    have hle : s1.heap.objs.size ≤ b := by
      rcases e' with z | z
      · rw [z]; exact Nat.le_add_right _ _
      · rw [z]; exact Nat.le_refl _
    exact I1.fpOk hle (I1.hok.fresh hle)
end Tz
/-! min(x) of a tuple of ints. -/
namespace Tc
open PySem PySem.Spec PyProof.Rows L2
end Tc
/-! enumerate of a tuple. -/
namespace Py
open PySem PySem.Spec PyProof.Rows L2 Tc Px Tz
section
variable {B : Bas} {X : Cx} {Γ : List Sl} {pos : Pos}
theorem its_enumT {K : PySem.W.Frag} {keep : List Sl → Prop} {Hs : Hp} {a : Addr} {ds : List PyData} (p : Pers K keep false Hs a ds) :
    Its keep Hs (Tz.Itet K a) ds.length (fun i => .tuple [.int i, nth ds i]) := by
  refine ⟨fun H => ∃ us, SqX false K H a us ∧ us.length = ds.length, (Tz.Itet K a).yld, ⟨?_, ?_, fun _ _ _ _ _ _ y => y⟩, ?_, ?_⟩
  · rintro i H hi ⟨us, q1, l1⟩
    exact ⟨us, us[i]'(by omega), q1, by simp [show i < us.length by omega]⟩
  · rintro H ⟨us, q1, l1⟩
    exact ⟨us, q1, l1⟩
  · rintro B2 Hs2 σ H Γ k1 s S
    obtain ⟨us, q1, d1⟩ := p B2 Hs2 σ H Γ k1 s S
    exact ⟨us, q1, d1.len⟩
  · rintro B2 i Hs2 σ H Γ x H' hi k1 s S ⟨c, y, rfl, hc, rfl, g1⟩
    obtain ⟨us, q1, d1⟩ := p B2 Hs2 σ H Γ k1 s S
    obtain ⟨d, e1, v1⟩ := dvs_get' d1 (g1 us q1)
    obtain ⟨kk2, T⟩ := S.new (o := .tup [.int (i : Nat), y]) hc
    refine ⟨_, kk2, T, ?_⟩
    show Dv _ _ (.tuple [.int i, nth ds i])
    rw [nth_at e1]
    exact .tup (.inl upd_same) (.cons (.int _) (.cons (v1.mono kk2) .nil))
theorem gi_enumT {x : Str} {p tpos : Pos} {e : Expr} {elts : List Expr} {n1 : Nat} {φ : Nat → (Nat → PyData) → (List Sl → Prop) → List Sl → Prop} (hx : x = "enumerate") (hg : Gl X x) (hm : X.mg x = none)
    (hs : starEach [e] X.env = [(false, eval e X.env)])
    (h : GS B X false e Γ fun ds keep Γ1 => keep Γ1 ∧ φ ds.length (fun i => .tuple [.int i, nth ds i]) keep Γ1) : GI B X (.Tuple elts n1 tpos) (.Call (.Name x p) [e] [] pos) Γ φ := by
  subst hx
  intro Hs σ H R S g
  refine pi_of (Tz.pi_enumT hg hm (pa_cons pe_W pa_nil hs) hs) ?_
  refine show teW X e σ H _ from h Hs σ H _ S fun ds keep Γ1 a Hs1 H1 ⟨k1, p1⟩ s1 S1 pr => ?_
  obtain ⟨us, q1, d1⟩ := pers_q pr S1 k1
  exact ⟨a, us, rfl, q1, g _ _ keep Γ1 _ Hs1 H1 p1 s1 S1 (its_enumT pr)⟩
end
end Py
namespace Py
open PySem PySem.Spec PyProof.Rows L2 Tc Px
end Py
namespace Py
open PySem PySem.Spec PyProof.Rows L2 Tc Px
section
variable {B : Bas} {X : Cx} {Γ : List Sl} {pos : Pos} {k : Nat} {E : DE} {N : List Str}
/-- x, y = a, b; x a list of its own -/
theorem par_on {i j : Nat} {x y : Str} {a b : Expr} {px py pt : Pos} {kt k2 : Nat} {pt2 : Pos} (c : Bod X k) (nd : N.Nodup) (eN : X.N = N) (hi : idxS X.N x = some i) (hj : idxS X.N y = some j) (hij : Nat.beq i j = false)
    (hx : X.env.scope.names.lookup x = some .local) (hy : X.env.scope.names.lookup y = some .local)
    (hw : swappedStores [.Tuple [.Name x px, .Name y py] kt pt] (.Tuple [a, b] k2 pt2) X.env = pure (some [x, y])) (hs : swapsWithSole [.Tuple [.Name x px, .Name y py] kt pt] (.Tuple [a, b] k2 pt2) pos.line X.env = pure false)
    (h1 : starEach [a, b] X.env = (false, eval a X.env) :: starEach [b] X.env) (h2 : starEach [b] X.env = (false, eval b X.env) :: starEach [] X.env)
    (h : GF B X a Γ fun ds Γ1 => ∀ B' : Bas, GE B' X b Γ1 fun d Γ2 => Nat.ble (i + 1) Γ2.length = true ∧ Nat.ble (j + 1) Γ2.length = true ∧ ∀ ad, Alone Γ2 ad → E.nx ((Γ2.set i (.own ad ds)).set j (.d d))) : G1 B X (.Assign [.Tuple [.Name x px, .Name y py] kt pt] (.Tuple [a, b] k2 pt2) pos) Γ E := fun D Hs σ H R S =>
  ps_of (ps_par c.calm (eN ▸ nd) (idxS_ok hi) (idxS_ok hj) (Nat.ne_of_beq_eq_false hij) hx hy (pa_cons pe_W (pa_cons pe_W pa_nil h2) h1) hw hs) (show teW X a σ H _ from h Hs σ H _ S fun ds Γ1 l vs Hs1 H1 p s1 S1 f n al ha dv => show teW X b σ H1 _ from p ⟨L2.upd B.fr l (.lst vs), Hs1, B.T⟩ Hs1 σ H1 _ (S1.hold ha n f al) fun d Γ2 v Hs2 H2 ⟨l1, l2, p2⟩ s2 S2 q2 => by
    obtain ⟨S2, ha2, n2, al2⟩ := S2.loose S1.gr f n
    exact ⟨_, _, rfl, R.nx _ Hs2 _ H2 (p2 l al2) (s1.trans s2) ((S2.putL (Nat.le_of_ble_eq_true l1) f n2 ha2 (dv.mono s2) al2).putD (by rw [List.length_set]; exact Nat.le_of_ble_eq_true l2) q2)⟩)
end
end Py
/-! A def of one thing called by its name. -/
namespace Py
open PySem PySem.Spec PyProof.Rows L2 Tc Px
end Py
/-! zip of three sequences of any kinds, walked. -/
namespace Tz
open PySem PySem.Spec PyProof.Rows L2
theorem Seq2.on {k : Bool} {h h' : Heap} {a : Addr} {xs : Array Value} (q : Seq2 k h a xs) (s : ∀ o, h.get? a = some o → h'.get? a = some o) : Seq2 k h' a xs := by
  cases k with
  | true => exact Heap.IsList.at q s
  | false => exact Heap.IsTuple.at q s
theorem six {z ti tp i1 i2 i3 c : Addr} (h : c ∈ [z, ti, tp, i1, i2, i3]) : c = z ∨ c = ti ∨ c = tp ∨ c = i1 ∨ c = i2 ∨ c = i3 := by simpa using h
end Tz
/-! zip of three. -/
namespace Py
open PySem PySem.Spec PyProof.Rows L2 Tc Tz Px
end Py
/-! x, y = a, b where one of the names is also used in a comprehension; x a list of its own. -/
namespace Py
open PySem PySem.Spec PyProof.Rows L2 Tc Tz Px
end Py
/-! a written tuple indexed; its greatest; x -= e; reversed(list); tuple * 0, 1. -/
namespace L2
open PySem PySem.Spec PyProof.Rows
end L2
namespace L2
open PySem PySem.Spec PyProof.Rows
end L2
namespace Py
open PySem PySem.Spec PyProof.Rows L2 Tc Tz Px
section
variable {B : Bas} {X : Cx} {Γ : List Sl} {pos : Pos} {k : Nat} {E : DE} {N : List Str} {P : Program} {w : World} {K : PySem.W.Frag} {mg : Str → Option Value} {base : Heap}
/-- T[j], T written at the module's top -/
theorem ge_ixW {x : Str} {px : Pos} {b : Expr} {a : Addr} {ds : List PyData} {φ : PyData → List Sl → Prop} (hX : SameX X P w K mg base) (W : Writ K mg x a ds) (hg : Gl X x) (hs : PlainIx b)
    (h : GE B X b Γ fun d2 Γ2 => ∃ i d, d2 = .int i ∧ atD ds i = some d ∧ φ d Γ2) (hd : (x == ("__debug__" : Str)) = false) : GE B X (.Subscript (.Name x px) b pos) Γ φ := fun Hs σ H Q S g => by
  obtain ⟨rfl, rfl, rfl, rfl, rfl⟩ := hX
  obtain ⟨vs, sq, dv⟩ := W.sq
  refine pe_of (pe_ix ix_seq (pe_glob (v := .ref a) hg W.gm rfl hd) pe_W hs) (show teW X b σ H _ from h Hs σ H _ S fun d2 Γ2 v2 Hs2 H2 ⟨i, d, e, q, p⟩ s2 S2 q2 => ?_)
  subst e
  cases q2
  obtain ⟨v, ev, dw⟩ := at_dvs (dv Hs2) q
  exact .inr (.inl ⟨a, vs, i, v, rfl, rfl, sq H2, ev, g d Γ2 v Hs2 H2 p s2 S2 dw⟩)
/-- x -= e -/
theorem g1_subA {i : Nat} {x : Str} {px : Pos} {e : Expr} {n : Int} (c : Bod X k) (nd : N.Nodup) (eN : X.N = N) (hi : idxS X.N x = some i) (lx : LocB X.env.scope x = true) (fx : X.fn x = true ∨ X.env.scope.names.lookup x = some .local) (hΓ : Γ[i]? = some (.d (.int n)))
    (h : GE B X e Γ fun d Γ1 => ∃ m, d = .int m ∧ Nat.ble (i + 1) Γ1.length = true ∧ E.nx (Γ1.set i (.d (.int (n - m))))) : G1 B X (.AugAssign (.Name x px) .Sub e pos) Γ E := fun D Hs σ H R S => by
  obtain ⟨v, ev, dv⟩ := S.dat hΓ
  cases dv
  exact ps_of (ps_aug (eN ▸ nd) (idxS_ok hi) (locB_ok lx) pe_W ip_sub fx) ⟨.int n, ev, show teW X e σ H _ from h Hs σ H _ S fun d Γ1 v Hs1 H1 ⟨m, ed, l1, p⟩ s1 S1 q => by
    subst ed
    cases q
    exact ⟨n, m, rfl, rfl, R.nx _ Hs1 _ H1 p s1 (S1.putD (Nat.le_of_ble_eq_true l1) (.int _))⟩⟩
/-- for .. in reversed(list) -/
theorem its_rev {K : PySem.W.Frag} {keep : List Sl → Prop} {Hs : Hp} {a : Addr} {ds : List PyData} (p : Pers K keep true Hs a ds) :
    Its keep Hs (L2.Itv K a ds.length) ds.length (fun i => nth ds (ds.length - 1 - i)) := by
  refine ⟨fun H => ∃ us, SqL K H a us ∧ us.length = ds.length, (L2.Itv K a ds.length).yld, ⟨?_, ?_, fun _ _ _ _ _ _ y => y⟩, ?_, ?_⟩
  · rintro i H hi ⟨us, q1, l1⟩
    exact ⟨hi, us, us[ds.length - 1 - i]'(by omega), q1, by simp [show ds.length - 1 - i < us.length by omega]⟩
  · rintro H ⟨us, q1, l1⟩
    exact Nat.le_refl _
  · rintro B2 Hs2 σ H Γ k1 s S
    obtain ⟨us, q1, d1⟩ := p B2 Hs2 σ H Γ k1 s S
    exact ⟨us, q1, d1.len⟩
  · rintro B2 i Hs2 σ H Γ x H' hi k1 s S ⟨rfl, g1⟩
    obtain ⟨us, q1, d1⟩ := p B2 Hs2 σ H' Γ k1 s S
    obtain ⟨d, e1, v1⟩ := dvs_get' d1 (g1 us q1)
    refine ⟨Hs2, Same.refl _, S, ?_⟩
    show Dv Hs2 x (nth ds (ds.length - 1 - i))
    rw [nth_at e1]
    exact v1
theorem gi_rev {x : Str} {p : Pos} {e tg : Expr} {φ : Nat → (Nat → PyData) → (List Sl → Prop) → List Sl → Prop} (hx : x = "reversed") (hg : Gl X x) (hm : X.mg x = none)
    (hs : starEach [e] X.env = (false, eval e X.env) :: starEach [] X.env)
    (h : GS B X true e Γ fun ds keep Γ1 => keep Γ1 ∧ φ ds.length (fun i => nth ds (ds.length - 1 - i)) keep Γ1) : GI B X tg (.Call (.Name x p) [e] [] pos) Γ φ := by
  subst hx
  intro Hs σ H R S g
  refine pi_of (RT.pi_revA hg hm pe_W hs) ?_
  refine show teW X e σ H _ from h Hs σ H _ S fun ds keep Γ1 a Hs1 H1 ⟨k1, p1⟩ s1 S1 pr => ?_
  obtain ⟨us, q1, d1⟩ := pers_q pr S1 k1
  refine ⟨a, us, rfl, .inl ⟨q1, ?_⟩⟩
  rw [d1.len]
  exact g _ _ keep Γ1 _ Hs1 H1 p1 s1 S1 (its_rev pr)
end
end Py
/-! == and != of an instance by the class's own __eq__, whatever stands on the right. -/
namespace Tc
open PySem PySem.Spec PySem.W PyProof.Rows
open Builtin
end Tc
namespace Tc
open PySem PySem.Spec PyProof.Rows L2
end Tc
/-! x in a list of data that are plain all through. -/
namespace Py
open PySem PySem.Spec PyProof.Rows L2 Tc Tz Px
section
variable {B : Bas} {X : Cx} {Γ : List Sl} {pos : Pos} {k : Nat} {P : Program} {w : World} {K : PySem.W.Frag} {mg : Str → Option Value} {base : Heap}
def rInA : R2 := fun x y H Q => ∃ d ds, Dv H x d ∧ Dv H y (.list ds) ∧ SeqAt.shaped d = true ∧ SeqAt.shaped (.list ds) = true ∧ Q (.bl (ds.any fun z => PyData.eqv z d)) H
theorem op_inA (c : Cxt X k) : OpR X (compareOp .In) rInA := by
  intro pins s σ H x y v u Q I rx ry h
  obtain ⟨d, e, hd, he, sd, se, q⟩ := h
  obtain ⟨as, r1, _⟩ := hd.reads clean_noDict I (sm_none c.sm I) (shaped_nd sd) v rx
  obtain ⟨bs, r2, _⟩ := he.reads clean_noDict I (sm_none c.sm I) (shaped_nd se) u ry
  have hu : X.A.units + 65 < cLine := by
    have := c.room.un
    omega
  exact SeqAt.in_list_reads r2 r1 (SeqAt.canLay_of_shaped se) (SeqAt.canLay_of_shaped sd) (room_in_shaped sd hu) ⟨.bl _, H, I, rfl, q⟩
def InA (d1 d2 : PyData) (k : Bool → Prop) : Prop := ∃ ds, d2 = .list ds ∧ SeqAt.shaped d1 = true ∧ SeqAt.shaped d2 = true ∧ k (ds.any fun z => PyData.eqv z d1)
theorem sem_inA (d1 d2 : PyData) (k : Bool → Prop) (h : InA d1 d2 k) : Cmp2 rInA d1 d2 k := fun H v1 v2 Q q1 q2 g => by
  obtain ⟨ds, rfl, s1, s2, hk⟩ := h
  exact ⟨_, ds, q1, q2, s1, s2, g _ hk⟩
theorem gt_inA {a b : Expr} {ψ : Bool → List Sl → Prop} (c : Cxt X k) (hm : behindInMarks .In b = false) (h : GE B X a Γ fun d1 Γ1 => GB B X b Γ1 fun d2 Γ2 => InA d1 d2 fun c => ψ c Γ2) : GT B X (.Compare a [.In] [b] pos) Γ ψ := gt_cmp (op_inA c) InA sem_inA hm h
end
end Py
/-! a tuple, so many times, also 0 or 1. -/
namespace Py
open PySem PySem.Spec PyProof.Rows L2 Tc Tz Px
end Py
/-! A def called by three names, the last one first. -/
namespace Py
open PySem PySem.Spec PyProof.Rows L2 Tc Px
end Py
/-! math.comb, imported by name. -/
namespace Py
open PySem PySem.Spec PyProof.Rows L2 Tc Px
section
variable {B : Bas} {X : Cx} {Γ : List Sl} {pos : Pos} {k : Nat} {P : Program} {w : World} {K : PySem.W.Frag} {mg : Str → Option Value} {base : Heap}
def rComb : List V → Hp → VK → Prop := fun vs H Q => ∃ a b : Int, vs = [.int a, .int b] ∧ (0 ≤ a ∧ a < 2 ^ 64) ∧ (0 ≤ b ∧ b ≤ 9000) ∧ Q (.int (PySem.W.mcComb a b)) H
theorem cr_comb : L2.CallR X (.builtin "math.comb") rComb := by
  intro pins s σ H vs us Q I r h
  obtain ⟨a, b, rfl, ha, hb, q⟩ := h
  obtain ⟨t, u, rfl⟩ := Vals.int2 r
  exact PySem.W.mc_comb_v ha.1 hb.1 ha.2 (.inl hb.2) rfl ⟨.int _, H, I.tok _, ⟨_, rfl⟩, q⟩
theorem ge_comb {x : Str} {p : Pos} {a b : Expr} {φ : PyData → List Sl → Prop} (hX : SameX X P w K mg base) (hx : mg x = some (.builtin "math.comb")) (hg : Gl X x) (hdb : (x == ("__debug__" : Str)) = false)
    (h : GA B X [a, b] Γ fun ds Γ1 => ∃ i j : Int, ds = [.int i, .int j] ∧ (0 ≤ i ∧ i < 2 ^ 64) ∧ (0 ≤ j ∧ j ≤ 9000) ∧ φ (.int (PySem.W.mcComb i j)) Γ1)
    (he : starEach [a, b] X.env = (false, eval a X.env) :: starEach [b] X.env) (hpl : (backTo pos (starEach [b] X.env)).any (·.1) = false) : GE B X (.Call (.Name x p) [a, b] [] pos) Γ φ := by
  obtain ⟨rfl, rfl, rfl, rfl, rfl⟩ := hX
  exact fun Hs σ H Q S g => pe_of (pe_callBfun cr_comb hg hx pa_W hdb (he := he) (hpl := hpl)) (h Hs σ H _ S fun ds Γ1 vs Hs1 H1 ⟨i, j, e, hi, hj, p⟩ s S1 dv => by
    subst e
    exact ⟨i, j, dvs_ints (ns := [i, j]) dv, hi, hj, g _ Γ1 _ Hs1 H1 p s S1 (.int _)⟩)
end
end Py
/-! What stands in a name may be forgotten. -/
namespace Py
open PySem PySem.Spec PyProof.Rows L2 Tc Px
theorem gs_clr {B : Bas} {X : Cx} {Γ : List Sl} {E : DE} {sts : List Stmt} (vs : List Nat) (h : Gs B X sts (Px.clr Γ vs) E) : Gs B X sts Γ E := fun D Hs σ H R S => h D Hs σ H R (S.clr rfl fun _ _ => rfl)
end Py
section
open PySem PySem.Spec PyProof.Rows L2 Tc Px Py
local macro_rules | `(tactic| fail "x1GI0") => `(tactic| first
  | ((with_reducible show GI _ _ _ (Expr.Call (Expr.Name "enumerate" _) _ _ _) _ _); (with_reducible apply gi_enumT); (eq_refl); (eq_refl); (exact Gls.enumerate (by assumption)); (eq_refl))
  )
local macro_rules | `(tactic| fail "x1GI1") => `(tactic| first
  | ((with_reducible show GI _ _ _ (Expr.Call (Expr.Name "range" _) [_] _ _) _ _); (with_reducible apply gi_rg1); (with_reducible eq_refl); (eq_refl); (exact Gls.range (by assumption)); rotate_left; (eq_refl))
  )
local macro_rules | `(tactic| fail "x1GI") => `(tactic| first
  | ((with_reducible show GI _ _ _ (Expr.Call (Expr.Name "enumerate" _) _ _ _) _ _); fail "x1GI0")
  | ((with_reducible show GI _ _ _ (Expr.Call (Expr.Name "range" _) [_] _ _) _ _); fail "x1GI1")
  | (with_reducible refine gi_seq ?_)
  )
local macro_rules | `(tactic| fail "x1GA") => `(tactic| first
  | ((with_reducible show GA _ _ (Expr.Starred (Expr.ListComp _ _ _ _) _ :: _) _ _); (with_reducible apply ga_star true); rotate_left; (eq_refl))
  | ((with_reducible show GA _ _ (Expr.Starred (Expr.Subscript _ _ _) _ :: _) _ _); (with_reducible apply ga_star true); rotate_left; (eq_refl))
  | ((with_reducible show GA _ _ (_ :: _) _ _); (with_reducible apply ga_cons); rotate_left; (exact star_cons rfl))
  | (with_reducible refine ga_nil ?_)
  )
local macro_rules | `(tactic| fail "x1GF") => `(tactic| first
  | ((with_reducible show GF _ _ (Expr.Subscript _ (Expr.Slice none none (some _) _) _) _ _); (with_reducible refine gf_rev ?_))
  | ((with_reducible show GF _ _ (Expr.BinOp (Expr.List _ _) Operator.Mult _ _) _ _); (with_reducible refine gf_rep ?_))
  | (with_reducible refine gf_list ?_)
  )
local macro_rules | `(tactic| fail "x1GQ") => `(tactic| first
  | ((with_reducible show GQ _ _ true (Expr.Subscript _ (Expr.Slice none none (some _) _) _) _ _); (with_reducible refine gq_ofF ?_))
  | ((with_reducible show GQ _ _ _ (Expr.Name _ _) _ _); (with_reducible apply name_q); (eq_refl); (eq_refl); (eq_refl); rotate_left; (decide); (decide))
  | ((with_reducible show GQ _ _ true (Expr.List _ _) _ _); (with_reducible refine gq_ofF ?_))
  | ((with_reducible show GQ _ _ true (Expr.ListComp _ _ _ _) _ _); (with_reducible refine gq_ofF ?_))
  | ((with_reducible show GQ _ _ true (Expr.BinOp _ _ _ _) _ _); (with_reducible refine gq_ofF ?_))
  | ((with_reducible show GQ _ _ true (Expr.Call _ _ _ _) _ _); (with_reducible refine gq_ofF ?_))
  )
local macro_rules | `(tactic| fail "x1GE2") => `(tactic| first
  | ((with_reducible show GE _ _ (Expr.Call (Expr.Name "isinstance" _) [_, Expr.Name _ _] _ _) _ _); (with_reducible apply ge_isC); (case k => with_reducible assumption); (exact ⟨rfl, rfl, rfl, rfl, rfl⟩); (assumption); (eq_refl); (eq_refl); (exact Gls.isinstance (by assumption)); (eq_refl); rotate_left; (exact star_cons rfl); (exact star_cons rfl); (eq_refl); (decide))
  )
local macro_rules | `(tactic| fail "x1GE3") => `(tactic| first
  | ((with_reducible show GE _ _ (Expr.Call (Expr.Name _ _) (_ :: _) [] _) _ _); (with_reducible apply ge_make); (case M => with_reducible assumption); (exact ⟨rfl, rfl, rfl, rfl, rfl⟩); (first | with_reducible assumption | exact Bod.toCxt (by with_reducible assumption) | exact Cxt.blk (Bod.toCxt (by with_reducible assumption)) _ _ _ _ _ _ | exact Cxt.blk (Cxt.blk (Bod.toCxt (by with_reducible assumption)) _ _ _ _ _ _) _ _ _ _ _ _); (eq_refl); (eq_refl); (first | with_reducible assumption | exact Exc.none); rotate_left; (decide); (exact star_cons rfl); (eq_refl))
  )
local macro_rules | `(tactic| fail "x1GE4") => `(tactic| first
  | ((with_reducible show GE _ _ (Expr.Call (Expr.Name _ _) [] (_ :: _) _) _ _); (with_reducible apply ge_callR); (case F => with_reducible assumption); (exact ⟨rfl, rfl, rfl, rfl, rfl⟩); (first | with_reducible assumption | exact Bod.toCxt (by with_reducible assumption) | exact Cxt.blk (Bod.toCxt (by with_reducible assumption)) _ _ _ _ _ _ | exact Cxt.blk (Cxt.blk (Bod.toCxt (by with_reducible assumption)) _ _ _ _ _ _) _ _ _ _ _ _); (eq_refl); (eq_refl); (first | with_reducible assumption | exact Exc.none); rotate_left; (decide); (eq_refl); (eq_refl); (eq_refl); (eq_refl))
  )
local macro_rules | `(tactic| fail "x1GE5") => `(tactic| first
  | ((with_reducible show GE _ _ (Expr.Attribute _ _ _) _ _); (with_reducible apply ge_prop); (case D => with_reducible assumption); (exact ⟨rfl, rfl, rfl, rfl, rfl⟩); (first | with_reducible assumption | exact Bod.toCxt (by with_reducible assumption) | exact Cxt.blk (Bod.toCxt (by with_reducible assumption)) _ _ _ _ _ _ | exact Cxt.blk (Cxt.blk (Bod.toCxt (by with_reducible assumption)) _ _ _ _ _ _) _ _ _ _ _ _); (eq_refl); rotate_left; (eq_refl))
  )
local macro_rules | `(tactic| fail "x1GE6") => `(tactic| first
  | (with_reducible refine ge_int ?_)
  | (with_reducible refine ge_str ?_)
  | (with_reducible refine ge_bool ?_)
  | (with_reducible refine ge_none ?_)
  )
local macro_rules | `(tactic| fail "x1GE7") => `(tactic| first
  | ((with_reducible show GE _ _ (Expr.Name _ _) _ _); (with_reducible apply name_e); (eq_refl); (eq_refl); (eq_refl); rotate_left; (decide); (decide))
  | ((with_reducible show GE _ _ (Expr.Name _ _) _ _); (with_reducible apply name_give); (eq_refl); (eq_refl); (eq_refl); rotate_left; (decide); (decide))
  | ((with_reducible show GE _ _ (Expr.Name _ _) _ _); (with_reducible apply num_e); (case hm => with_reducible assumption); (exact ⟨rfl, rfl, rfl, rfl, rfl⟩); (eq_refl); rotate_left; (decide))
  )
local macro_rules | `(tactic| fail "x1GE8") => `(tactic| first
  | ((with_reducible show GE _ _ (Expr.Compare _ [CmpOp.Eq] _ _) _ _); (with_reducible apply ge_eq); (first | with_reducible assumption | exact Bod.toCxt (by with_reducible assumption) | exact Cxt.blk (Bod.toCxt (by with_reducible assumption)) _ _ _ _ _ _ | exact Cxt.blk (Cxt.blk (Bod.toCxt (by with_reducible assumption)) _ _ _ _ _ _) _ _ _ _ _ _))
  )
local macro_rules | `(tactic| fail "x1GE9") => `(tactic| first
  | (with_reducible refine ge_add ?_)
  | (with_reducible refine ge_sub ?_)
  | (with_reducible refine ge_mul ?_)
  | (with_reducible refine ge_mod ?_)
  | (with_reducible refine ge_fdiv ?_)
  )
local macro_rules | `(tactic| fail "x1GE10") => `(tactic| first
  | ((with_reducible show GE _ _ (Expr.Subscript (Expr.Name _ _) _ _) _ _); (with_reducible apply ixo_n); (eq_refl); (eq_refl); (eq_refl); (exact fun _ _ => rfl); rotate_left; (decide); (decide))
  )
local macro_rules | `(tactic| fail "x1GE11") => `(tactic| first
  | ((with_reducible show GE _ _ (Expr.Call (Expr.Name "len" _) [Expr.Name _ _] _ _) _ _); (with_reducible apply len_writ); (case W => with_reducible assumption); (exact ⟨rfl, rfl, rfl, rfl, rfl⟩); (with_reducible eq_refl); (eq_refl); (exact Gls.len (by assumption)); (eq_refl); rotate_left; (decide); (exact star_cons rfl))
  )
local macro_rules | `(tactic| fail "x1GE12") => `(tactic| first
  | ((with_reducible show GE _ _ (Expr.Call (Expr.Name "len" _) _ _ _) _ _); (with_reducible apply ge_len); (with_reducible eq_refl); (eq_refl); (exact Gls.len (by assumption)); rotate_left; (exact star_cons rfl))
  )
local macro_rules | `(tactic| fail "x1GE13") => `(tactic| first
  | ((with_reducible show GE _ _ (Expr.Call (Expr.Name "isinstance" _) [_, Expr.Name "int" _] _ _) _ _); (with_reducible apply isi_int); (with_reducible eq_refl); (with_reducible eq_refl); (eq_refl); (exact Gls.isinstance (by assumption)); (eq_refl); (exact Gls.int (by assumption)); (exact star_cons rfl); (exact star_cons rfl); (eq_refl))
  )
local macro_rules | `(tactic| fail "x1GE14") => `(tactic| first
  | ((with_reducible show GE _ _ (Expr.Call (Expr.Name "isinstance" _) [_, Expr.Name "bool" _] _ _) _ _); (with_reducible apply isi_bool); (with_reducible eq_refl); (with_reducible eq_refl); (eq_refl); (exact Gls.isinstance (by assumption)); (eq_refl); (exact Gls.bool (by assumption)); (exact star_cons rfl); (exact star_cons rfl); (eq_refl))
  )
local macro_rules | `(tactic| fail "x1GE15") => `(tactic| first
  | ((with_reducible show GE _ _ (Expr.Call (Expr.Name "isinstance" _) [_, Expr.Name "tuple" _] _ _) _ _); (with_reducible apply isi_tuple); (with_reducible eq_refl); (with_reducible eq_refl); (eq_refl); (exact Gls.isinstance (by assumption)); (eq_refl); (exact Gls.tuple (by assumption)); (exact star_cons rfl); (exact star_cons rfl); (eq_refl))
  )
local macro_rules | `(tactic| fail "x1GE16") => `(tactic| first
  | ((with_reducible show GE _ _ (Expr.Call (Expr.Name "int" _) _ _ _) _ _); (with_reducible apply ge_int1); (with_reducible eq_refl); (eq_refl); (exact Gls.int (by assumption)); rotate_left; (exact star_cons rfl))
  )
local macro_rules | `(tactic| fail "x1GE17") => `(tactic| first
  | ((with_reducible show GE _ _ (Expr.Call (Expr.Name "sum" _) _ _ _) _ _); (with_reducible apply ge_sum); (eq_refl); (with_reducible eq_refl); (eq_refl); (exact Gls.sum (by assumption)); rotate_left; (exact star_cons rfl))
  )
local macro_rules | `(tactic| fail "x1GE18") => `(tactic| first
  | ((with_reducible show GE _ _ (Expr.Call (Expr.Name "max" _) [_] _ _) _ _); (with_reducible apply ge_max1); (eq_refl); (first | with_reducible assumption | exact Bod.toCxt (by with_reducible assumption) | exact Cxt.blk (Bod.toCxt (by with_reducible assumption)) _ _ _ _ _ _ | exact Cxt.blk (Cxt.blk (Bod.toCxt (by with_reducible assumption)) _ _ _ _ _ _) _ _ _ _ _ _); (with_reducible eq_refl); (eq_refl); (exact Gls.max (by assumption)); rotate_left; (exact star_cons rfl))
  )
local macro_rules | `(tactic| fail "x1GE19") => `(tactic| first
  | ((with_reducible show GE _ _ (Expr.Call (Expr.Name "min" _) [_] _ _) _ _); (with_reducible apply ge_min1); (eq_refl); (with_reducible eq_refl); (eq_refl); (exact Gls.min (by assumption)); rotate_left; (exact star_cons rfl))
  )
local macro_rules | `(tactic| fail "x1GE20") => `(tactic| first
  | ((with_reducible show GE _ _ (Expr.Call (Expr.Name "repr" _) _ _ _) _ _); (with_reducible apply ge_repr); (first | with_reducible assumption | exact Bod.toCxt (by with_reducible assumption) | exact Cxt.blk (Bod.toCxt (by with_reducible assumption)) _ _ _ _ _ _ | exact Cxt.blk (Cxt.blk (Bod.toCxt (by with_reducible assumption)) _ _ _ _ _ _) _ _ _ _ _ _); (with_reducible eq_refl); (eq_refl); (exact Gls.repr (by assumption)); rotate_left; (exact star_cons rfl))
  )
local macro_rules | `(tactic| fail "x1GE21") => `(tactic| first
  | ((with_reducible show GE _ _ (Expr.Call (Expr.Name "min" _) [_, _] _ _) _ _); (with_reducible apply ge_min2); (eq_refl); (with_reducible eq_refl); (eq_refl); (exact Gls.min (by assumption)); rotate_left; (exact star_cons rfl); (eq_refl))
  )
local macro_rules | `(tactic| fail "x1GE22") => `(tactic| first
  | ((with_reducible show GE _ _ (Expr.Call (Expr.Name "max" _) [_, _] _ _) _ _); (with_reducible apply ge_max2); (eq_refl); (with_reducible eq_refl); (eq_refl); (exact Gls.max (by assumption)); rotate_left; (exact star_cons rfl); (eq_refl))
  )
local macro_rules | `(tactic| fail "x1GE23") => `(tactic| first
  | ((with_reducible show GE _ _ (Expr.Call (Expr.Name "divmod" _) _ _ _) _ _); (with_reducible apply ge_divmod); (with_reducible eq_refl); (eq_refl); (exact Gls.divmod (by assumption)); rotate_left; (exact star_cons rfl); (eq_refl))
  )
local macro_rules | `(tactic| fail "x1GE24") => `(tactic| first
  | ((with_reducible show GE _ _ (Expr.Call (Expr.Name "tuple" _) _ _ _) _ _); (with_reducible apply ge_tupL); (with_reducible eq_refl); (eq_refl); (exact Gls.tuple (by assumption)); rotate_left; (exact star_cons rfl))
  )
local macro_rules | `(tactic| fail "x1GE25") => `(tactic| first
  | ((with_reducible show GE _ _ (Expr.Call (Expr.Name _ _) (_ :: _) [] _) _ _); (with_reducible apply call_e); (case F => with_reducible assumption); (exact ⟨rfl, rfl, rfl, rfl, rfl⟩); (first | with_reducible assumption | exact Bod.toCxt (by with_reducible assumption) | exact Cxt.blk (Bod.toCxt (by with_reducible assumption)) _ _ _ _ _ _ | exact Cxt.blk (Cxt.blk (Bod.toCxt (by with_reducible assumption)) _ _ _ _ _ _) _ _ _ _ _ _); (eq_refl); (eq_refl); (first | with_reducible assumption | exact Exc.none); rotate_left; (decide); (exact star_cons rfl); (eq_refl))
  | ((with_reducible show GE _ _ (Expr.Call (Expr.Name _ _) (_ :: _) [] _) _ _); (with_reducible apply pail_e); (case F => with_reducible assumption); (exact ⟨rfl, rfl, rfl, rfl, rfl⟩); (first | with_reducible assumption | exact Bod.toCxt (by with_reducible assumption) | exact Cxt.blk (Bod.toCxt (by with_reducible assumption)) _ _ _ _ _ _ | exact Cxt.blk (Cxt.blk (Bod.toCxt (by with_reducible assumption)) _ _ _ _ _ _) _ _ _ _ _ _); (eq_refl); (eq_refl); (first | with_reducible assumption | exact Exc.none); (eq_refl); (eq_refl); (eq_refl); rotate_left; (decide); (decide); (decide); (exact star_cons rfl); (eq_refl))
  )
local macro_rules | `(tactic| fail "x1GE") => `(tactic| first
  | ((with_reducible show GE _ _ (Expr.Call (Expr.Name "isinstance" _) [_, Expr.Name _ _] _ _) _ _); fail "x1GE2")
  | ((with_reducible show GE _ _ (Expr.Call (Expr.Name _ _) (_ :: _) [] _) _ _); fail "x1GE3")
  | ((with_reducible show GE _ _ (Expr.Call (Expr.Name _ _) [] (_ :: _) _) _ _); fail "x1GE4")
  | ((with_reducible show GE _ _ (Expr.Attribute _ _ _) _ _); fail "x1GE5")
  | ((with_reducible show GE _ _ (Expr.Constant _ _ _) _ _); fail "x1GE6")
  | ((with_reducible show GE _ _ (Expr.Name _ _) _ _); fail "x1GE7")
  | (with_reducible refine ge_one ?_)
  | (with_reducible refine ge_and ?_)
  | (with_reducible refine ge_not ?_)
  | (with_reducible refine ge_if ?_)
  | ((with_reducible show GE _ _ (Expr.Compare _ [CmpOp.Eq] _ _) _ _); fail "x1GE8")
  | (with_reducible refine ge_le ?_)
  | (with_reducible refine ge_ge ?_)
  | ((with_reducible show GE _ _ (Expr.BinOp _ _ _ _) _ _); fail "x1GE9")
  | (with_reducible refine ge_slice ?_)
  | ((with_reducible show GE _ _ (Expr.Subscript (Expr.Name _ _) _ _) _ _); fail "x1GE10")
  | ((with_reducible show GE _ _ (Expr.Subscript _ _ _) _ _); (with_reducible apply ge_ix); (exact fun _ _ => rfl))
  | (with_reducible refine ge_tup ?_)
  | (with_reducible refine ge_joined1 ?_)
  | (with_reducible refine ge_fmt ?_)
  | ((with_reducible show GE _ _ (Expr.Call (Expr.Name "len" _) [Expr.Name _ _] _ _) _ _); fail "x1GE11")
  | ((with_reducible show GE _ _ (Expr.Call (Expr.Name "len" _) _ _ _) _ _); fail "x1GE12")
  | ((with_reducible show GE _ _ (Expr.Call (Expr.Name "isinstance" _) [_, Expr.Name "int" _] _ _) _ _); fail "x1GE13")
  | ((with_reducible show GE _ _ (Expr.Call (Expr.Name "isinstance" _) [_, Expr.Name "bool" _] _ _) _ _); fail "x1GE14")
  | ((with_reducible show GE _ _ (Expr.Call (Expr.Name "isinstance" _) [_, Expr.Name "tuple" _] _ _) _ _); fail "x1GE15")
  | ((with_reducible show GE _ _ (Expr.Call (Expr.Name "int" _) _ _ _) _ _); fail "x1GE16")
  | ((with_reducible show GE _ _ (Expr.Call (Expr.Name "sum" _) _ _ _) _ _); fail "x1GE17")
  | ((with_reducible show GE _ _ (Expr.Call (Expr.Name "max" _) [_] _ _) _ _); fail "x1GE18")
  | ((with_reducible show GE _ _ (Expr.Call (Expr.Name "min" _) [_] _ _) _ _); fail "x1GE19")
  | ((with_reducible show GE _ _ (Expr.Call (Expr.Name "repr" _) _ _ _) _ _); fail "x1GE20")
  | ((with_reducible show GE _ _ (Expr.Call (Expr.Name "min" _) [_, _] _ _) _ _); fail "x1GE21")
  | ((with_reducible show GE _ _ (Expr.Call (Expr.Name "max" _) [_, _] _ _) _ _); fail "x1GE22")
  | ((with_reducible show GE _ _ (Expr.Call (Expr.Name "divmod" _) _ _ _) _ _); fail "x1GE23")
  | ((with_reducible show GE _ _ (Expr.Call (Expr.Name "tuple" _) _ _ _) _ _); fail "x1GE24")
  | ((with_reducible show GE _ _ (Expr.Call (Expr.Attribute _ "join" _) _ _ _) _ _); (with_reducible apply ge_join); rotate_left; (eq_refl); (eq_refl); (eq_refl))
  | ((with_reducible show GE _ _ (Expr.Call (Expr.Name _ _) (_ :: _) [] _) _ _); fail "x1GE25")
  | ((with_reducible show GE _ _ (Expr.List _ _) _ _); (with_reducible refine ge_ofF ?_))
  | ((with_reducible show GE _ _ (Expr.ListComp _ _ _ _) _ _); (with_reducible refine ge_ofF ?_))
  | ((with_reducible show GE _ _ (Expr.BinOp _ _ _ _) _ _); (with_reducible refine ge_ofF ?_))
  | ((with_reducible show GE _ _ (Expr.Call _ _ _ _) _ _); (with_reducible refine ge_ofF ?_))
  | (with_reducible refine ge_neg ?_)
  )
local macro_rules | `(tactic| fail "x1G126") => `(tactic| first
  | ((with_reducible show G1 _ _ (Stmt.Assign [Expr.Tuple [Expr.Name _ _, Expr.Name _ _] _ _] (Expr.Tuple _ _ _) _) _ _); (with_reducible apply par_n); (with_reducible assumption); (assumption); (eq_refl); (eq_refl); (eq_refl); (eq_refl); (eq_refl); (eq_refl); (eq_refl); (eq_refl))
  )
local macro_rules | `(tactic| fail "x1G127") => `(tactic| first
  | ((with_reducible show G1 _ _ (Stmt.Assign [Expr.Name _ _] _ _) _ _); (with_reducible apply set_e); (with_reducible assumption); (eq_refl); (eq_refl); rotate_left; (eq_refl))
  | ((with_reducible show G1 _ _ (Stmt.Assign [Expr.Name _ _] _ _) _ _); (with_reducible apply set_cell); (with_reducible assumption); (eq_refl); (eq_refl); rotate_left; (eq_refl); (eq_refl))
  )
local macro_rules | `(tactic| fail "x1G128") => `(tactic| first
  | ((with_reducible show G1 _ _ (Stmt.Assign [Expr.Subscript (Expr.Name _ _) _ _] _ _) _ _); (with_reducible apply put_n); (eq_refl); (eq_refl); (eq_refl); rotate_left; (decide); (decide); (intro _; eq_refl); (eq_refl); (eq_refl); (eq_refl))
  )
local macro_rules | `(tactic| fail "x1G1") => `(tactic| first
  | ((with_reducible show G1 _ _ (Stmt.Assign [Expr.Tuple [Expr.Name _ _, Expr.Name _ _] _ _] (Expr.Tuple _ _ _) _) _ _); fail "x1G126")
  | ((with_reducible show G1 _ _ (Stmt.For _ _ _ _ _) _ _); (with_reducible apply g1_for); (with_reducible assumption); rotate_left; (intro _; eq_refl))
  | (with_reducible refine g1_ret ?_)
  | (with_reducible refine g1_if ?_)
  | ((with_reducible show G1 _ _ (Stmt.Assign [Expr.Name _ _] _ _) _ _); fail "x1G127")
  | ((with_reducible show G1 _ _ (Stmt.Expr _ _) _ _); (with_reducible apply g1_expr); rotate_left; (eq_refl))
  | ((with_reducible show G1 _ _ (Stmt.Assign [Expr.Subscript (Expr.Name _ _) _ _] _ _) _ _); fail "x1G128")
  | ((with_reducible show G1 _ _ (Stmt.Assign [Expr.Tuple _ _ _] _ _) _ _); (with_reducible apply asg_t); rotate_left; (eq_refl); (eq_refl); (eq_refl))
  )
local macro_rules | `(tactic| fail "x1GT29") => `(tactic| first
  | ((with_reducible show GT _ _ (Expr.Compare _ [CmpOp.Eq] _ _) _ _); (with_reducible apply gt_eq); (first | with_reducible assumption | exact Bod.toCxt (by with_reducible assumption) | exact Cxt.blk (Bod.toCxt (by with_reducible assumption)) _ _ _ _ _ _ | exact Cxt.blk (Cxt.blk (Bod.toCxt (by with_reducible assumption)) _ _ _ _ _ _) _ _ _ _ _ _))
  )
local macro_rules | `(tactic| fail "x1GT") => `(tactic| first
  | (with_reducible refine gt_not ?_)
  | (with_reducible refine gt_bool ?_)
  | ((with_reducible show GT _ _ (Expr.Compare _ [CmpOp.Eq] _ _) _ _); fail "x1GT29")
  | (with_reducible refine gt_lt ?_)
  | (with_reducible refine gt_gt ?_)
  | (with_reducible refine gt_ge ?_)
  | (with_reducible refine gt_isN ?_)
  | (with_reducible refine gt_notN ?_)
  | ((with_reducible show GT _ _ (Expr.Compare _ [CmpOp.LtE, CmpOp.LtE] _ _) _ _); (with_reducible apply gt_lele); (with_unfolding_all rfl))
  | ((with_reducible show GT _ _ _ _ _); (with_reducible apply gt_ofE); rotate_left; (intro _; eq_refl))
  )
local macro_rules | `(tactic| fail "x1GW") => `(tactic| first
  | (with_reducible refine gw_or1 ?_)
  | (with_reducible refine gw_or ?_)
  | (with_reducible refine gw_and ?_)
  )
local macro_rules | `(tactic| fail "x1GC30") => `(tactic| first
  | ((with_reducible show GC _ _ _ (Expr.Name _ _) _ _ _); (with_reducible apply gc_n); (with_reducible assumption); (eq_refl); (eq_refl); (eq_refl); (first | exact .inl rfl | exact .inr rfl); (eq_refl))
  )
local macro_rules | `(tactic| fail "x1GCs31") => `(tactic| first
  | ((with_reducible show GCs _ _ _ (Expr.Name _ _ :: _) _ _ _); (with_reducible apply gcs_n); (with_reducible assumption); (eq_refl); (eq_refl); (eq_refl); (first | exact .inl rfl | exact .inr rfl); (eq_refl); rotate_left; (eq_refl))
  )
local macro_rules | `(tactic| fail "x1GS32") => `(tactic| first
  | ((with_reducible show GS _ _ false (Expr.Name _ _) _ _); (with_reducible apply gs_writ); (case W => with_reducible assumption); (exact ⟨rfl, rfl, rfl, rfl, rfl⟩); (eq_refl); rotate_left; (decide))
  )
local macro_rules | `(tactic| fail "x1GG33") => `(tactic| first
  | ((with_reducible show GG _ _ (Expr.Name _ _) _ _ _); (with_reducible apply gg_n); (with_reducible assumption); (eq_refl); (eq_refl); (eq_refl); (first | exact .inl rfl | exact .inr rfl))
  )
local macro_rules | `(tactic| fail "x1GG34") => `(tactic| first
  | ((with_reducible show GG _ _ (Expr.Subscript (Expr.Name _ _) _ _) _ _ _); (with_reducible apply gg_put); (eq_refl); (eq_refl); (eq_refl); rotate_left; (decide); (decide); (intro _; eq_refl))
  )
local macro_rules | `(tactic| fail "x1GG") => `(tactic| first
  | ((with_reducible show GG _ _ (Expr.Tuple _ _ _) _ _ _); (with_reducible apply gg_t); (eq_refl); (eq_refl); (eq_refl); (eq_refl))
  | ((with_reducible show GG _ _ (Expr.Name _ _) _ _ _); fail "x1GG33")
  | ((with_reducible show GG _ _ (Expr.Subscript (Expr.Name _ _) _ _) _ _ _); fail "x1GG34")
  )
local macro_rules | `(tactic| fail "x1GGs35") => `(tactic| first
  | ((with_reducible show GGs _ _ (Expr.Name _ _ :: _) _ _ _); (with_reducible apply ggs_n); (with_reducible assumption); (eq_refl); (eq_refl); (eq_refl); (first | exact .inl rfl | exact .inr rfl); rotate_left; (eq_refl))
  )
local macro_rules | `(tactic| fail "x1GGs36") => `(tactic| first
  | ((with_reducible show GGs _ _ (Expr.Subscript (Expr.Name _ _) (Expr.Constant _ _ _) _ :: _) _ _ _); (with_reducible apply ggs_put0); (eq_refl); (eq_refl); (eq_refl); (eq_refl); rotate_left; (decide); (decide); (intro _; eq_refl); (eq_refl))
  )
local macro_rules | `(tactic| fail "x1GGs") => `(tactic| first
  | (with_reducible refine ggs_nil ?_)
  | ((with_reducible show GGs _ _ (Expr.Name _ _ :: _) _ _ _); fail "x1GGs35")
  | ((with_reducible show GGs _ _ (Expr.Subscript (Expr.Name _ _) (Expr.Constant _ _ _) _ :: _) _ _ _); fail "x1GGs36")
  )
local macro_rules | `(tactic| fail "x1mi37") => `(tactic| first
  | ((with_reducible show ∃ k0 : Int, _ = PyData.int k0 ∧ (0 ≤ k0 ∧ k0 ≤ 1000) ∧ _); refine ⟨_, rfl, ⟨by first | decide | omega, by first | decide | omega⟩, Nat.le_of_ble_eq_true rfl, ?_⟩)
  )
local macro_rules | `(tactic| fail "x1mi38") => `(tactic| first
  | ((with_reducible show MulD (PyData.int _) (PyData.int _) _); (with_reducible apply mul_ii); (first | exact .inl (.inl ⟨by omega, by omega⟩) | exact .inl (.inr ⟨by omega, by omega⟩)))
  )
local macro_rules | `(tactic| fail "x1mi39") => `(tactic| first
  | ((with_reducible show IntD _ _ (PyData.int _) (PyData.int _) _); (with_reducible apply mod_i); (first | decide | omega))
  | ((with_reducible show IntD _ _ (PyData.int _) (PyData.int _) _); (with_reducible apply fdiv_i); (first | decide | omega); (first | decide | omega))
  )
local macro_rules | `(tactic| fail "x1mi") => `(tactic| first
  | ((with_reducible show notI _ = true ∧ _); refine ⟨by first | rfl | assumption, ?_⟩)
  | ((with_reducible show ∀ B0 : Bas, Same _ _ → _); intro _ _ _)
  | ((with_reducible show ∃ k0 : Int, _ = PyData.int k0 ∧ (0 ≤ k0 ∧ k0 ≤ 1000) ∧ _); fail "x1mi37")
  | ((with_reducible show ∀ a0 : Addr, Alone _ a0 → _); intro _ _)
  | (with_reducible refine add_ii ?_)
  | (with_reducible refine int0_i ?_)
  | (with_reducible refine ord_i ?_)
  | (with_reducible refine isN_i ?_)
  | (with_reducible refine notN_i ?_)
  | ((with_reducible show EqD _ _ _); (with_reducible apply eq_p); (eq_refl))
  | (with_reducible refine len_l ?_)
  | (with_reducible refine len_t ?_)
  | (with_reducible refine seq_l ?_)
  | (with_reducible refine seq_t ?_)
  | (with_reducible refine intf_i ?_)
  | (with_reducible refine sl_l ?_)
  | (with_reducible refine gs_list ?_)
  | (with_reducible refine gs_tup ?_)
  | (with_reducible refine gs_list ?_)
  | (with_reducible refine gs_list ?_)
  | (with_reducible refine gs_list ?_)
  | (with_reducible refine gs_list ?_)
  | ((with_reducible show IxD (PyData.list _) (PyData.int _) _); (with_reducible apply ix_l); (eq_refl))
  | ((with_reducible show IxD (PyData.tuple _) (PyData.int _) _); (with_reducible apply ix_t); (eq_refl))
  | ((with_reducible show MulD (PyData.int _) (PyData.int _) _); fail "x1mi38")
  | ((with_reducible show AddD (PyData.list _) (PyData.list _) _); (with_reducible apply add_l2); (eq_refl))
  | ((with_reducible show AddD (PyData.tuple _) (PyData.tuple _) _); (with_reducible apply add_t2); (eq_refl))
  | ((with_reducible show IntD _ _ (PyData.int _) (PyData.int _) _); fail "x1mi39")
  | ((with_reducible show (_ : List Sl) = _); rfl)
  | ((with_reducible show (∃ ds, _[_]? = some (Sl.own _ ds)) ∧ _); refine ⟨⟨_, rfl⟩, ?_⟩)
  | ((with_reducible show ∃ ds m, _[_]? = some (Sl.own _ ds) ∧ _); refine ⟨_, _, rfl, _, rfl, rfl, ?_⟩)
  | ((with_reducible show ∃ es, _[_]? = some (Sl.own _ es) ∧ _); refine ⟨_, rfl, ?_⟩)
  | ((with_reducible show Blk _ _ _); intro _ _ _ _ _)
  | (with_reducible refine ⟨len_ok rfl, ?_⟩)
  | (with_reducible refine ⟨_, rfl, ?_⟩)
  | (with_reducible refine ⟨_, _, rfl, ?_⟩)
  | (with_reducible refine ⟨rfl, ?_⟩)
  | (with_reducible refine ⟨trivial, ?_⟩)
  )
local macro_rules | `(tactic| infer_instance) => `(tactic| first
  | ((with_reducible show (if _ = true then _ else _)); (with_reducible refine ite_t (by with_reducible rfl) ?_))
  | ((with_reducible show (if _ = true then _ else _)); (with_reducible refine ite_f (by with_reducible exact no_ft) ?_))
  | ((with_reducible show (if _ = true then _ else _)); (with_reducible refine ite_t (by with_reducible exact yes_nf) ?_))
  | ((with_reducible show (if _ = true then _ else _)); (with_reducible refine ite_f (by with_reducible exact no_nt) ?_))
  | ((with_reducible show Out.to _ _ _); (with_reducible refine to_ok ?_))
  | ((with_reducible show GI _ _ _ _ _ _); fail "x1GI")
  | ((with_reducible show GA _ _ _ _ _); fail "x1GA")
  | ((with_reducible show GF _ _ _ _ _); fail "x1GF")
  | ((with_reducible show GQ _ _ _ _ _ _); fail "x1GQ")
  | ((with_reducible show GE _ _ _ _ _); fail "x1GE")
  | ((with_reducible show G1 _ _ _ _ _); fail "x1G1")
  | (with_reducible refine gs_cons ?_)
  | ((with_reducible show GT _ _ _ _ _); fail "x1GT")
  | ((with_reducible show GW _ _ _ _ _); fail "x1GW")
  | (with_reducible refine go_none ?_)
  | (with_reducible refine go_some ?_)
  | (with_reducible refine gp_nil ?_)
  | (with_reducible refine gp_one ?_)
  | (with_reducible refine gb_of ?_)
  | ((with_reducible show GC _ _ _ (Expr.Name _ _) _ _ _); fail "x1GC30")
  | ((with_reducible show GC _ _ _ (Expr.Tuple _ _ _) _ _ _); (with_reducible apply gc_t); (eq_refl); (eq_refl); (eq_refl); (eq_refl))
  | ((with_reducible show GCs _ _ _ (Expr.Name _ _ :: _) _ _ _); fail "x1GCs31")
  | (with_reducible refine gcs_nil ?_)
  | ((with_reducible show GS _ _ false (Expr.Name _ _) _ _); fail "x1GS32")
  | ((with_reducible show GG _ _ _ _ _ _); fail "x1GG")
  | ((with_reducible show GGs _ _ _ _ _ _); fail "x1GGs")
  | fail "x1mi"
  )
namespace K70
open PySem PySem.Spec PyProof.Rows L2 Tc
def topS (i : Nat) : Stmt := PySem.Challenge.pw_toldcounts_k70_whole_ranges_and_numbers.main.body.getD i (.Pass ⟨0, 0, 0, 0⟩)
abbrev s_is_integer : Stmt := topS 10
abbrev s_is_number : Stmt := topS 11
abbrev s_need_people : Stmt := topS 13
abbrev s_whole_of : Stmt := topS 18
abbrev s_need_poll_places : Stmt := topS 19
abbrev s_is_share : Stmt := topS 20
abbrev s_need_shares : Stmt := topS 21
abbrev s_need_poll : Stmt := topS 22
abbrev s_counts_with : Stmt := topS 23
abbrev s_count_stretches : Stmt := topS 25
abbrev s_stretches_for : Stmt := topS 26
abbrev s_first_counts : Stmt := topS 27
abbrev s_count_ranges : Stmt := topS 28
abbrev s_pollings_number : Stmt := topS 29
abbrev s_lwell : Stmt := topS 31
abbrev s_ldraw : Stmt := topS 32
abbrev s_lof : Stmt := topS 33
abbrev s_lnear : Stmt := topS 34
abbrev s_ltried : Stmt := topS 35
abbrev s_ldealt : Stmt := topS 36
abbrev s_lshares : Stmt := topS 37
abbrev s_lfound : Stmt := topS 38
abbrev s_lends : Stmt := topS 39
abbrev s_lways : Stmt := topS 40
abbrev s_lreckoned : Stmt := topS 41
abbrev s_ltold_right : Stmt := topS 42
abbrev s_lright : Stmt := topS 43
abbrev s_law : Stmt := topS 44
abbrev m_init : Stmt := inClass (topS 17) 0
abbrev m_places : Stmt := inClass (topS 17) 2
abbrev m_shares : Stmt := inClass (topS 17) 3
def pl1 (x : Str) (n : Nat) : Str × Nat := (x, n)
def nu1 (x : Str) (n : Int) : Str × Int := (x, n)
def fplaces : List (Str × Nat) := [pl1 "is_integer" 10, pl1 "is_number" 11, pl1 "need_people" 13, pl1 "whole_of" 18, pl1 "_need_poll_places" 19, pl1 "_is_share" 20, pl1 "_need_shares" 21, pl1 "need_poll" 22, pl1 "counts_with" 23, pl1 "_count_stretches" 25, pl1 "_stretches_for" 26, pl1 "first_counts" 27, pl1 "count_ranges" 28, pl1 "pollings_number" 29, pl1 "_law_well" 31, pl1 "_law_draw" 32, pl1 "_law_of" 33, pl1 "_law_near" 34, pl1 "_law_tried" 35, pl1 "_law_dealt" 36] ++ [pl1 "_law_shares" 37, pl1 "_law_found" 38, pl1 "_law_ends" 39, pl1 "_law_ways" 40, pl1 "_law_reckoned" 41, pl1 "_law_told_right" 42, pl1 "_law_right" 43, pl1 "law" 44]
def funs : List Str := fplaces.map (·.1)
def nums : List (Str × Int) := [nu1 "MOST_SHARES" 6, nu1 "_LEAST_SHARES" 2]
def frees : List Str := (["len", "int", "bool", "str", "tuple", "list", "isinstance", "abs", "divmod", "range", "repr", "min", "max", "all", "any", "sum", "sorted", "zip", "enumerate", "reversed", "set"] : List String).map Str.ofString
def fields : List Str := ["_places", "_shares", "_text"]
def props : List (Str × Nat) := [pl1 "places" 2, pl1 "shares" 3]
/-- == of two instances is the own one -/
def insB (K : PySem.W.Frag) (x : Str) : Bool := He.eqO (PySem.W.findIn K (.ref (He.ga K x)) "__class__") (some (some (.builtin "object.__class__"))) && (He.eqO (PySem.W.specialIn K (.builtin "object.__class__") "__get__") (some (some (.builtin "getset_descriptor.__get__"))) &&
  (decide (PySem.W.takesIn K (.builtin "object.__class__") = some true) && (decide (PySem.W.mroIn K (He.ga K x) (.type "object") = some true) && (decide (PySem.W.kitOne K (.ref (He.ga K x)) (.ref (He.ga K x)) = some true) &&
  ((PySem.W.clsIn K (He.ga K x)).isSome && decide (PySem.W.typeIn K (.ref (He.ga K x)) = some (.type "type")))))))
def fn : List FnQ := fplaces.map (fun p => ⟨.glo p.1, p.1, p.1, topS p.2⟩) ++ (⟨.meth "Poll" "__init__", "__init__", "Poll.__init__", m_init⟩ :: props.map (fun p => ⟨.prop "Poll" p.1, p.1, "Poll." ++ p.1, inClass (topS 17) p.2⟩))
def tf : List He.Defn := []
def F (K : PySem.W.Frag) : Bool :=
  funs.all (fun x => (He.Fa.glo x).ok K) && (frees.all (fun x => (He.Fa.free x).ok K) && (nums.all (fun e => (He.Fa.int e.1 e.2).ok K) &&
  (((He.Fa.glo "_WHOLES").ok K && He.tupB K "_WHOLES" [He.Dv.int 100, He.Dv.int 1000]) && ((He.eqO (PySem.W.nsIn K mainGlobals "comb") (some (some (.builtin "math.comb")))) && (((He.Fa.glo "Poll").ok K && (mkB K "Poll" && insB K "Poll")) && (fields.all (fun f => (He.Fa.noat "Poll" f).ok K) &&
  (props.all (fun p => propB K "Poll" p.1) && (K.lookup sysModules).isSome)))))))
abbrev R : PySem.W.OpenRow := PySem.W.OpenLaw.row PySem.Challenge.rw_toldcounts_k70_whole_ranges_and_numbers
abbrev hk : PySem.W.Hook := hookQ F fn tf
def ob (s : PySem.W.SharedT) : He.Al × Bool := obsQ F fn tf (HandSHeadRun.getT s)
theorem ob_eq (s : PySem.W.SharedT) : ob s = hk.obs s.abs := obsQ_eq (HandSHeadRun.getT_eq s)
def loose : List Str := nums.map (·.1) ++ (((["_wall", "WrongValue", "InvalidPeople", "InvalidPlaces", "NotAPoll", "InvalidShares", "_WHOLES", "Poll"] : List String).map Str.ofString ++ funs.dropLast))
end K70
namespace K70
open PySem PySem.Spec PyProof.Rows L2 Tc
theorem run (w : World) : HandSHeadRun.RunEqI R (PySem.W.view R.prog [0, 44]) hk ob 14000 loose w := by
  unfold HandSHeadRun.RunEqI
  kernel_rfl
end K70
namespace K70
open PySem PySem.Spec PyProof.Rows L2 Tc Px Py
section
variable {P : Program} {w : World} {K : PySem.W.Frag} {mg : Str → Option Value} {base : Heap}
def intB : PyData → Bool
  | .int _ => true
  | _ => false
def natB : PyData → Bool
  | .int i => decide (0 ≤ i)
  | _ => false
abbrev ni1 (ds : List PyData) : Prop := notI (ds.headD .none) = true
theorem sc_is_integer : FnScope ["value"] ["value"] (defScope s_is_integer) := ⟨rfl, rfl, rfl, by decide +kernel, rfl, by decide +kernel, by decide +kernel⟩
theorem sc_is_number : FnScope ["value"] ["value"] (defScope s_is_number) := ⟨rfl, rfl, rfl, by decide +kernel, rfl, by decide +kernel, by decide +kernel⟩
theorem ok_is_integer {f : Addr} {fd : FuncData} (F : Fun K "is_integer" "is_integer" s_is_integer f fd) (sm : ∃ o, K.lookup sysModules = some o) (B : Gls mg) :
    FnG P w K mg base (L2.CX P w) 1 f fd ["value"] (spF 1 ni1 fun ds => .ok (.bool (intB (ds.headD .none)))) := by
  refine fn_data F sc_is_integer sm (by decide) _ _ fun cdv A outer s H E Bs ds hl hp c ex => ?_
  match ds, hl with
  | [d], _ =>
  have hp : notI d = true := hp
  refine gs_cons ?_
  repeat infer_instance
  rw [isD_int]
  cases d <;> (repeat infer_instance)
  all_goals first | exact rfl | (rw [isD_bool]; repeat infer_instance; exact rfl)
theorem ok_is_number (F1 : Call P w K mg base (L2.CX P w) 1 "is_integer" ["value"] (spF 1 ni1 fun ds => .ok (.bool (intB (ds.headD .none))))) {f : Addr} {fd : FuncData} (F : Fun K "is_number" "is_number" s_is_number f fd) (sm : ∃ o, K.lookup sysModules = some o) (B : Gls mg) :
    FnG P w K mg base (L2.CX P w) 2 f fd ["value"] (spF 1 ni1 fun ds => .ok (.bool (natB (ds.headD .none)))) := by
  refine fn_data F sc_is_number sm (by decide) _ _ fun cdv A outer s H E Bs ds hl hp c ex => ?_
  match ds, hl with
  | [d], _ =>
  have hp : notI d = true := hp
  refine gs_cons ?_
  repeat infer_instance
  rw [List.headD_cons]
  cases d <;> (generalize hb : intB _ = t; cases t <;> first | cases hb | skip)
  all_goals repeat infer_instance
  all_goals exact rfl
end
end K70
namespace K70
open PySem PySem.Spec PyProof.Rows L2 Tc Px Py
local macro_rules | `(tactic| fail "x5GE0") => `(tactic| first
  | ((with_reducible show GE _ _ (Expr.Subscript (Expr.Name "_WHOLES" _) _ _) _ _); (with_reducible apply ge_ixW); (exact ⟨rfl, rfl, rfl, rfl, rfl⟩); (assumption); (eq_refl); (exact fun _ _ => rfl); rotate_left; (decide))
  )
local macro_rules | `(tactic| infer_instance) => `(tactic| first
  | (with_reducible refine gs_nil ?_)
  | ((with_reducible show GE _ _ (Expr.Subscript (Expr.Name "_WHOLES" _) _ _) _ _); fail "x5GE0")
  )
section
variable {P : Program} {w : World} {K : PySem.W.Frag} {mg : Str → Option Value} {base : Heap}
theorem sc_need_people : FnScope ["people", "most"] ["people", "most"] (defScope s_need_people) := ⟨rfl, rfl, rfl, by decide +kernel, rfl, by decide +kernel, by decide +kernel⟩
theorem sc_whole_of : FnScope ["places"] ["places"] (defScope s_whole_of) := ⟨rfl, rfl, rfl, by decide +kernel, rfl, by decide +kernel, by decide +kernel⟩
theorem sc_need_poll_places : FnScope ["places"] ["places"] (defScope s_need_poll_places) := ⟨rfl, rfl, rfl, by decide +kernel, rfl, by decide +kernel, by decide +kernel⟩
theorem sc_is_share : FnScope ["value", "whole"] ["value", "whole"] (defScope s_is_share) := ⟨rfl, rfl, rfl, by decide +kernel, rfl, by decide +kernel, by decide +kernel⟩
theorem sc_counts_with : FnScope ["share", "people", "whole", "least", "behind", "stretch"] ["share", "people", "whole"] (defScope s_counts_with) := ⟨rfl, rfl, rfl, by decide +kernel, rfl, by decide +kernel, by decide +kernel⟩
abbrev FInt (P : Program) (w : World) (K : PySem.W.Frag) (mg : Str → Option Value) (base : Heap) : Prop := Call P w K mg base (L2.CX P w) 1 "is_integer" ["value"] (spF 1 ni1 fun ds => .ok (.bool (intB (ds.headD .none))))
abbrev FNat (P : Program) (w : World) (K : PySem.W.Frag) (mg : Str → Option Value) (base : Heap) : Prop := Call P w K mg base (L2.CX P w) 2 "is_number" ["value"] (spF 1 ni1 fun ds => .ok (.bool (natB (ds.headD .none))))
theorem ok_need_people (F1 : FInt P w K mg base) {f : Addr} {fd : FuncData} (F : Fun K "need_people" "need_people" s_need_people f fd) (sm : ∃ o, K.lookup sysModules = some o) (B : Gls mg) :
    FnG P w K mg base (L2.CX P w) 2 f fd ["people", "most"] (spF 2 (fun ds => ∃ p : Int, ds = [.int p, .none] ∧ 1 ≤ p) fun _ => .ok .none) := by
  refine fn_data F sc_need_people sm (by decide) _ _ fun cdv A outer s H E Bs ds hl hp c ex => ?_
  obtain ⟨p, rfl, h1⟩ := hp
  refine gs_cons ?_
  repeat infer_instance
  show if (!true) = true then _ else _
  repeat infer_instance
  rw [decide_eq_false (show ¬ p < 1 by omega)]
  repeat infer_instance
  show if false = true then _ else _
  repeat infer_instance
  repeat (with_reducible refine gs_nil ?_)
  exact rfl
/-- nearest: a half goes up -/
def nearI (a d : Int) : Int := (2 * a + d) / (2 * d)
def wholeI (p : Int) : Int := if p = 0 then 100 else 1000
def wholeD : List PyData → PyData
  | [.int p] => .int (wholeI p)
  | _ => .none
abbrev place (p : Int) : Prop := p = 0 ∨ p = 1
theorem ok_whole_of {aW : Addr} (WW : Writ K mg "_WHOLES" aW [.int 100, .int 1000]) {f : Addr} {fd : FuncData} (F : Fun K "whole_of" "whole_of" s_whole_of f fd) (sm : ∃ o, K.lookup sysModules = some o) (B : Gls mg) :
    FnG P w K mg base (L2.CX P w) 1 f fd ["places"] (spF 1 (fun ds => ∃ p : Int, ds = [.int p] ∧ place p) fun ds => .ok (wholeD ds)) := by
  refine fn_data F sc_whole_of sm (by decide) _ _ fun cdv A outer s H E Bs ds hl hp c ex => ?_
  obtain ⟨p, rfl, h1⟩ := hp
  have nd := sc_whole_of.nd
  refine gs_cons ?_
  repeat infer_instance
  rcases h1 with rfl | rfl
  · exact ⟨0, _, rfl, rfl, rfl⟩
  · exact ⟨1, _, rfl, rfl, rfl⟩
theorem ok_need_poll_places {aW : Addr} (WW : Writ K mg "_WHOLES" aW [.int 100, .int 1000]) (F1 : FNat P w K mg base) {f : Addr} {fd : FuncData} (F : Fun K "_need_poll_places" "_need_poll_places" s_need_poll_places f fd) (sm : ∃ o, K.lookup sysModules = some o) (B : Gls mg) :
    FnG P w K mg base (L2.CX P w) 3 f fd ["places"] (spF 1 (fun ds => ∃ p : Int, ds = [.int p] ∧ place p) fun _ => .ok .none) := by
  refine fn_data F sc_need_poll_places sm (by decide) _ _ fun cdv A outer s H E Bs ds hl hp c ex => ?_
  obtain ⟨p, rfl, h1⟩ := hp
  have nd := sc_need_poll_places.nd
  refine gs_cons ?_
  repeat infer_instance
  have hn : natB ([PyData.int p].headD .none) = true := decide_eq_true (by rcases h1 with rfl | rfl <;> decide)
  rw [hn]
  show if false = true then _ else _
  repeat infer_instance
  rw [show decide ((([PyData.int 100, .int 1000] : List PyData).length : Int) ≤ p) = false from by rcases h1 with rfl | rfl <;> rfl]
  repeat infer_instance
  exact rfl
theorem ok_is_share (F1 : FNat P w K mg base) {f : Addr} {fd : FuncData} (F : Fun K "_is_share" "_is_share" s_is_share f fd) (sm : ∃ o, K.lookup sysModules = some o) (B : Gls mg) :
    FnG P w K mg base (L2.CX P w) 3 f fd ["value", "whole"] (spF 2 (fun ds => ∃ v u : Int, ds = [.int v, .int u] ∧ 0 ≤ v ∧ v ≤ u) fun _ => .ok (.bool true)) := by
  refine fn_data F sc_is_share sm (by decide) _ _ fun cdv A outer s H E Bs ds hl hp c ex => ?_
  obtain ⟨v, u, rfl, h1, h2⟩ := hp
  have nd := sc_is_share.nd
  refine gs_cons ?_
  repeat infer_instance
  have hn : natB ([PyData.int v].headD .none) = true := decide_eq_true h1
  rw [hn]
  repeat infer_instance
  rw [decide_eq_true h2]
/-- the stretch of counts that are told as the share; none if it is empty -/
def loI (s p u : Int) : Int := let l := ((2 * s - 1) * p + 2 * u - 1) / (2 * u); if l < 0 then 0 else l
def hiI (s p u : Int) : Int := let b := ((2 * s + 1) * p + 2 * u - 1) / (2 * u) - 1; if p < b then p else b
def cwO (s p u : Int) : PyData := if hiI s p u < loI s p u then .none else .tuple [.int (loI s p u), .int (hiI s p u)]
def cwD : List PyData → PyData
  | [.int s, .int p, .int u] => cwO s p u
  | _ => .none
theorem ok_counts_with {f : Addr} {fd : FuncData} (F : Fun K "counts_with" "counts_with" s_counts_with f fd) (sm : ∃ o, K.lookup sysModules = some o) (B : Gls mg) :
    FnG P w K mg base (L2.CX P w) 1 f fd ["share", "people", "whole"] (spF 3 (fun ds => ∃ s p u : Int, ds = [.int s, .int p, .int u] ∧ (0 ≤ s ∧ s ≤ 1001) ∧ (1 ≤ p ∧ p ≤ 3000) ∧ (u = 100 ∨ u = 1000)) fun ds => .ok (cwD ds)) := by
  refine fn_data F sc_counts_with sm (by decide) _ _ fun cdv A outer s H E Bs ds hl hp c ex => ?_
  obtain ⟨sh, p, u, rfl, h1, h2, h3⟩ := hp
  have nd := sc_counts_with.nd
  refine gs_cons ?_
  repeat infer_instance
  have e1 : cwD [.int sh, .int p, .int u] = cwO sh p u := rfl
  rw [e1]
  have e2 : hiI sh p u = (if p < ((2 * sh + 1) * p + 2 * u - 1) / (2 * u) - 1 then p else ((2 * sh + 1) * p + 2 * u - 1) / (2 * u) - 1) := rfl
  have e3 : loI sh p u = (if 0 > ((2 * sh - 1) * p + 2 * u - 1) / (2 * u) then 0 else ((2 * sh - 1) * p + 2 * u - 1) / (2 * u)) := rfl
  rw [← e2, ← e3]
  generalize hb : decide (hiI sh p u < loI sh p u) = t
  unfold cwO
  cases t
  · rw [if_neg (of_decide_eq_false hb)]
    repeat infer_instance
    exact rfl
  · rw [if_pos (of_decide_eq_true hb)]
    repeat infer_instance
    exact rfl
end
end K70
namespace K70
open PySem PySem.Spec PyProof.Rows L2 Tc Px Py
local macro_rules | `(tactic| fail "x6GE0") => `(tactic| first
  | ((with_reducible show GE _ _ (Expr.Subscript (Expr.Name "_WHOLES" _) _ _) _ _); (with_reducible apply ge_ixW); (exact ⟨rfl, rfl, rfl, rfl, rfl⟩); (assumption); (eq_refl); (exact fun _ _ => rfl); rotate_left; (decide))
  )
local macro_rules | `(tactic| infer_instance) => `(tactic| first
  | (with_reducible refine gs_nil ?_)
  | ((with_reducible show GE _ _ (Expr.Subscript (Expr.Name "_WHOLES" _) _ _) _ _); fail "x6GE0")
  )
section
variable {P : Program} {w : World} {K : PySem.W.Frag} {mg : Str → Option Value} {base : Heap}
theorem sc_need_shares : FnScope ["shares", "whole", "at", "share"] ["shares", "whole"] (defScope s_need_shares) := ⟨rfl, rfl, rfl, by decide +kernel, rfl, by decide +kernel, by decide +kernel⟩
theorem sc_need_poll : FnScope ["poll"] ["poll"] (defScope s_need_poll) := ⟨rfl, rfl, rfl, by decide +kernel, rfl, by decide +kernel, by decide +kernel⟩
theorem sc_init : FnScope ["self", "places", "shares", "share"] ["self", "places", "shares"] (defScope m_init) := ⟨rfl, rfl, rfl, by decide +kernel, rfl, by decide +kernel, by decide +kernel⟩
abbrev intsD (ns : List Int) : List PyData := ns.map .int
structure Shs (u : Int) (ns : List Int) : Prop where
  two : 2 ≤ ns.length
  six : ns.length ≤ 6
  ok : ∀ n ∈ ns, 0 ≤ n ∧ n ≤ u
theorem nth_int {ns : List Int} {i : Nat} (h : i < ns.length) : nth (intsD ns) i = .int ns[i] := by
  rw [nth_at (List.getElem?_eq_getElem (by rw [List.length_map]; exact h)), List.getElem_map]
theorem ok_need_shares (ms : ∃ t, mg "MOST_SHARES" = some (.int 6 t)) (ls : ∃ t, mg "_LEAST_SHARES" = some (.int 2 t)) (F1 : Call P w K mg base (L2.CX P w) 3 "_is_share" ["value", "whole"] (spF 2 (fun ds => ∃ v u : Int, ds = [.int v, .int u] ∧ 0 ≤ v ∧ v ≤ u) fun _ => .ok (.bool true)))
    {f : Addr} {fd : FuncData} (F : Fun K "_need_shares" "_need_shares" s_need_shares f fd) (sm : ∃ o, K.lookup sysModules = some o) (B : Gls mg) :
    FnG P w K mg base (L2.CX P w) 4 f fd ["shares", "whole"] (spF 2 (fun ds => ∃ (ns : List Int) (u : Int), ds = [.tuple (intsD ns), .int u] ∧ Shs u ns) fun _ => .ok .none) := by
  refine fn_data F sc_need_shares sm (by decide) _ _ fun cdv A outer s H E Bs ds hl hp c ex => ?_
  obtain ⟨ns, u, rfl, hs⟩ := hp
  have nd := sc_need_shares.nd
  refine gs_cons ?_
  repeat infer_instance
  rw [isD_tuple]
  dsimp only
  repeat infer_instance
  refine ⟨fun i Γ => ∃ (s2 s3 : Sl), Γ = [.d (.tuple (intsD ns)), .d (.int u), s2, s3], ⟨_, _, rfl⟩, fun _ _ _ _ => trivial, ?_, ?_⟩
  · rintro i Γ hi ⟨s2, s3, rfl⟩
    have hi : i < ns.length := by rw [List.length_map] at hi; exact hi
    have h6 := hs.six
    have ho := hs.ok _ (List.getElem_mem hi)
    show GG _ _ _ (.tuple [.int i, nth (intsD ns) i]) _ _
    rw [nth_int hi]
    generalize ns[i] = v at ho ⊢
    repeat infer_instance
    rw [eqv_int, decide_eq_false (show ¬ (i : Int) = 6 by omega)]
    repeat infer_instance
    refine ⟨⟨v, u, rfl, ho⟩, ?_⟩
    repeat infer_instance
    exact ⟨_, _, rfl⟩
  · rintro Γ ⟨s2, s3, rfl⟩
    have h2 := hs.two
    show Gs _ _ _ _ _
    refine gs_cons ?_
    repeat infer_instance
    rw [show decide (((intsD ns).length : Int) < 2) = false from decide_eq_false (by rw [List.length_map]; omega)]
    repeat infer_instance
    exact rfl
theorem ok_need_poll {C : Addr} (gv : mg "Poll" = some (.ref C)) (kv : KlsD K C) {f : Addr} {fd : FuncData} (F : Fun K "need_poll" "need_poll" s_need_poll f fd) (sm : ∃ o, K.lookup sysModules = some o) (B : Gls mg) :
    FnG P w K mg base (L2.CX P w) 1 f fd ["poll"] (spF 1 (fun ds => ∃ fs, ds = [inst C fs]) fun _ => .ok .none) := by
  refine fn_data F sc_need_poll sm (by decide) _ _ fun cdv A outer s H E Bs ds hl hp c ex => ?_
  obtain ⟨fs, rfl⟩ := hp
  have nd := sc_need_poll.nd
  refine gs_cons ?_
  repeat infer_instance
  refine .inr ⟨fs, rfl, ?_⟩
  repeat infer_instance
  exact rfl
theorem log_ok {i : Int} (h1 : 0 ≤ i) (h2 : i < 10 ^ 18) : i.natAbs.log2 < 1920 := by
  by_cases z : i.natAbs = 0
  · rw [z]
    decide
  · refine (Nat.log2_lt z).mpr (Nat.lt_of_lt_of_le (show i.natAbs < 2 ^ 64 by omega) (Nat.pow_le_pow_right (by decide) (by decide)))
abbrev itx (i : Int) : Str := toString i
def pollT (p : Int) (ns : List Int) : Str := Txt.join " " ("poll" :: itx p :: ns.map itx)
def pF (p : Int) (ns : List Int) : List (PyData × PyData) := [(.str "_places", .int p), (.str "_shares", .tuple (intsD ns)), (.str "_text", .str (pollT p ns))]
def asIs (xs : List PyData) : List Int := xs.map asI
def pollF : List PyData → List (PyData × PyData)
  | [.int p, .tuple xs] => pF p (asIs xs)
  | _ => []
def prePoll (ds : List PyData) : Prop := ∃ (p : Int) (ns : List Int), ds = [.int p, .tuple (intsD ns)] ∧ place p ∧ Shs (wholeI p) ns
theorem itx_len {n : Int} (h0 : 0 ≤ n) (h : n < 10 ^ 10) : (itx n).length ≤ 10 := PySem.W.KT.len_num h0 h
theorem place_u {p : Int} (h : place p) : (wholeI p = 100 ∨ wholeI p = 1000) ∧ 0 ≤ p ∧ p ≤ 1 := by
  rcases h with rfl | rfl
  · exact ⟨.inl rfl, by decide, by decide⟩
  · exact ⟨.inr rfl, by decide, by decide⟩
theorem texts_len {u : Int} {ns : List Int} (h : Shs u ns) (hu : u ≤ 1000) : ((ns.map itx).map fun x => x.length).sum ≤ 60 := by
  have h6 := h.six
  have ho := h.ok
  clear h
  have : ∀ ns : List Int, (∀ n ∈ ns, 0 ≤ n ∧ n ≤ u) → ((ns.map itx).map fun x => x.length).sum ≤ 10 * ns.length := by
    intro ns
    induction ns with
    | nil => intro _; exact Nat.le_refl _
    | cons n ns ih =>
      intro h
      have h1 := h n (.head _)
      have h2 := itx_len (n := n) (by omega) (by omega)
      have h3 := ih fun m hm => h m (.tail _ hm)
      rw [List.map_cons, List.map_cons, List.sum_cons, List.length_cons]
      omega
  have := this ns ho
  omega
theorem asIs_ints (ns : List Int) : asIs (intsD ns) = ns := by
  unfold asIs
  rw [List.map_map, show (asI ∘ PyData.int) = id from rfl, List.map_id]
theorem ok_init {C : Addr} (cl : Cls K C) (n1 : NoAttr K C "_places") (n2 : NoAttr K C "_shares") (n3 : NoAttr K C "_text")
    (F1 : Call P w K mg base (L2.CX P w) 3 "_need_poll_places" ["places"] (spF 1 (fun ds => ∃ p : Int, ds = [.int p] ∧ place p) fun _ => .ok .none))
    (F2 : Call P w K mg base (L2.CX P w) 4 "_need_shares" ["shares", "whole"] (spF 2 (fun ds => ∃ (ns : List Int) (u : Int), ds = [.tuple (intsD ns), .int u] ∧ Shs u ns) fun _ => .ok .none))
    (F3 : Call P w K mg base (L2.CX P w) 1 "whole_of" ["places"] (spF 1 (fun ds => ∃ p : Int, ds = [.int p] ∧ place p) fun ds => .ok (wholeD ds)))
    {f : Addr} {fd : FuncData} (F : Fun K "__init__" "Poll.__init__" m_init f fd) (sm : ∃ o, K.lookup sysModules = some o) (B : Gls mg) :
    FnG P w K mg base (L2.CX P w) 5 f fd ["self", "places", "shares"] (spI C 2 prePoll fun ds => .ok (pollF ds)) := by
  refine fn_init F sc_init sm rfl _ _ fun cdv A outer s H E G Hs0 a0 dx ds hl hp c ex => ?_
  obtain ⟨p, ns, rfl, hp1, hns⟩ := hp
  obtain ⟨pu, p0, p1⟩ := place_u hp1
  have nd := sc_init.nd
  refine gi_st ex fun gs hs ex1 => ?_
  repeat infer_instance
  refine ⟨⟨p, rfl, hp1⟩, ?_⟩
  repeat infer_instance
  refine gi_st ex fun gs hs ex2 => ?_
  repeat infer_instance
  refine ⟨⟨p, rfl, hp1⟩, ?_⟩
  show (Out.ok (.int (wholeI p))).to _ _
  repeat infer_instance
  refine ⟨⟨ns, _, rfl, hns⟩, ?_⟩
  repeat infer_instance
  refine gi_fld (i := 0) cl n1 (by decide) (by rfl) (by rfl) rfl (fun gs hs => ?_) (by decide) (by decide) rfl
  repeat infer_instance
  refine gi_fld (i := 0) cl n2 (by show 1 < 1000; decide) (by rfl) (by rfl) rfl (fun gs hs => ?_) (by decide) (by decide) rfl
  repeat infer_instance
  refine gi_fld (i := 0) cl n3 (by show 2 < 1000; decide) (by rfl) (by rfl) rfl (fun gs hs => ?_) (by decide) (by decide) rfl
  repeat infer_instance
  refine ⟨log_ok (by omega) (by omega), ?_⟩
  repeat infer_instance
  ((with_reducible apply gf_lk); (eq_refl); (assumption); (eq_refl); (eq_refl); (eq_refl); (intro _; eq_refl))
  repeat infer_instance
  refine ⟨Nat.le_trans (show (intsD ns).length ≤ 1000 by rw [List.length_map]; exact Nat.le_trans hns.six (by decide)) (by decide), fun _ => true, fun i => .str (itx (asI (nth (intsD ns) i))), fun i hi B' => ?_, ?_⟩
  · have hi : i < ns.length := by rw [List.length_map] at hi; exact hi
    have ho := hns.ok _ (List.getElem_mem hi)
    have eN := nth_int hi
    generalize ns[i] = v at ho eN
    rw [eN]
    repeat infer_instance
    refine ⟨log_ok (by omega) (by omega), ?_⟩
    exact ⟨by show PyData.str (itx v) = .str (itx (asI (nth (intsD ns) i))); rw [eN] <;> rfl, rfl⟩
  have eL : ((List.range (intsD ns).length).filter fun _ => true).map (fun i => PyData.str (itx (asI (nth (intsD ns) i)))) = (ns.map itx).map PyData.str := by
    rw [List.filter_eq_self.mpr fun _ _ => rfl]
    refine List.ext_getElem (by rw [List.length_map, List.length_range, List.length_map, List.length_map, List.length_map]) fun i h1 h2 => ?_
    have hi : i < ns.length := by rw [List.length_map, List.length_map] at h2; exact h2
    rw [List.getElem_map, List.getElem_range, nth_int hi, List.getElem_map, List.getElem_map] <;> rfl
  rw [eL]
  repeat infer_instance
  rw [List.append_nil]
  have hl6 := hns.six
  have hlen : ((ns.map itx).map PyData.str).length = ns.length := by rw [List.length_map, List.length_map]
  refine ⟨Nat.le_trans (show ((ns.map itx).map PyData.str).length + 2 ≤ 1000 by omega) (by decide), "poll" :: itx p :: ns.map itx, .inl rfl, ?_, rfl, ?_⟩
  · have l1 := itx_len (n := p) (by omega) (by omega)
    have l2 := texts_len hns (by omega)
    rw [List.map_cons, List.map_cons, List.sum_cons, List.sum_cons, List.length_cons, List.length_cons, List.length_map, show ("poll" : Str).length = 4 from rfl, show (" " : Str).length = 1 from rfl, Nat.mul_one]
    omega
  refine gi_nil ?_
  show OutI.ok (pF p (asIs (intsD ns))) = _
  rw [asIs_ints] <;> rfl
end
end K70
namespace K70
open PySem PySem.Spec PyProof.Rows L2 Tc Px Py
local macro_rules | `(tactic| fail "x7GE0") => `(tactic| first
  | ((with_reducible show GE _ _ (Expr.Subscript (Expr.Name "_WHOLES" _) _ _) _ _); (with_reducible apply ge_ixW); (exact ⟨rfl, rfl, rfl, rfl, rfl⟩); (assumption); (eq_refl); (exact fun _ _ => rfl); rotate_left; (decide))
  )
local macro_rules | `(tactic| infer_instance) => `(tactic| first
  | (with_reducible refine gs_nil ?_)
  | ((with_reducible show GE _ _ (Expr.Subscript (Expr.Name "_WHOLES" _) _ _) _ _); fail "x7GE0")
  )
section
variable {P : Program} {w : World} {K : PySem.W.Frag} {mg : Str → Option Value} {base : Heap}
structure Cts (ns : List Int) : Prop where
  two : 2 ≤ ns.length
  six : ns.length ≤ 6
  nn : ∀ n ∈ ns, 0 ≤ n
  pos : 0 < ns.sum
  lt : ns.sum < 2 ^ 400
theorem sum_ge : ∀ {ns : List Int}, (∀ n ∈ ns, 0 ≤ n) → 0 ≤ ns.sum ∧ ∀ n ∈ ns, n ≤ ns.sum
  | [], _ => ⟨Int.le_refl _, fun _ h => nomatch h⟩
  | x :: ns, h => by
    obtain ⟨h1, h2⟩ := sum_ge (ns := ns) fun n hn => h n (.tail _ hn)
    have hx := h x (.head _)
    rw [List.sum_cons]
    refine ⟨by omega, fun n hn => ?_⟩
    rcases List.mem_cons.mp hn with rfl | hn
    · omega
    · have := h2 n hn
      omega
def soL (u : Int) (ns : List Int) : List Int := ns.map fun n => nearI (u * n) ns.sum
theorem ints_isI (ns : List Int) : (intsD ns).all isI = true := by
  rw [List.all_map]
  exact List.all_eq_true.mpr fun _ _ => rfl
theorem near_le {u n S : Int} (hu : 0 ≤ u) (hn : 0 ≤ n) (hS : 0 < S) (h : n ≤ S) : 0 ≤ nearI (u * n) S ∧ nearI (u * n) S ≤ u := by
  have h1 : u * n ≤ u * S := Int.mul_le_mul_of_nonneg_left h hu
  have h2 : 0 ≤ u * n := Int.mul_nonneg hu hn
  unfold nearI
  refine ⟨Int.ediv_nonneg (by omega) (by omega), ?_⟩
  refine Int.lt_add_one_iff.mp (Int.ediv_lt_of_lt_mul (by omega) ?_)
  have e : (u + 1) * (2 * S) = 2 * (u * S) + 2 * S := by rw [Int.add_mul, Int.one_mul, Int.mul_left_comm]
  rw [e]
  omega
theorem fil_ints {ns : List Int} (g : Int → Int) : ((List.range (intsD ns).length).filter fun _ => true).map (fun i => PyData.int (g (asI (nth (intsD ns) i)))) = intsD (ns.map g) := by
  rw [List.filter_eq_self.mpr fun _ _ => rfl]
  refine List.ext_getElem (by rw [List.length_map, List.length_range, List.length_map, List.length_map, List.length_map]) fun i h1 h2 => ?_
  have hi : i < ns.length := by rw [List.length_map, List.length_map] at h2; exact h2
  rw [List.getElem_map, List.getElem_range, nth_int hi, List.getElem_map, List.getElem_map] <;> rfl
theorem so_shs {u : Int} {ns : List Int} (hu : 0 ≤ u) (h : Cts ns) : Shs u (soL u ns) := by
  refine ⟨by unfold soL; rw [List.length_map]; exact h.two, by unfold soL; rw [List.length_map]; exact h.six, fun m hm => ?_⟩
  obtain ⟨n, hn, rfl⟩ := List.mem_map.mp hm
  exact near_le hu (h.nn n hn) h.pos ((sum_ge h.nn).2 n hn)
end
end K70
namespace K70
open PySem PySem.Spec PyProof.Rows L2 Tc Px Py
local macro_rules | `(tactic| fail "x8GE0") => `(tactic| first
  | ((with_reducible show GE _ _ (Expr.Subscript (Expr.Name "_WHOLES" _) _ _) _ _); (with_reducible apply ge_ixW); (exact ⟨rfl, rfl, rfl, rfl, rfl⟩); (assumption); (eq_refl); (exact fun _ _ => rfl); rotate_left; (decide))
  )
local macro_rules | `(tactic| fail "x8GI1") => `(tactic| first
  | ((with_reducible show GI _ _ _ (Expr.Call (Expr.Name "reversed" _) [_] _ _) _ _); (with_reducible apply gi_rev); (eq_refl); (eq_refl); (exact Gls.reversed (by assumption)); (exact star_cons rfl))
  )
local macro_rules | `(tactic| fail "x8G12") => `(tactic| first
  | ((with_reducible show G1 _ _ (Stmt.AugAssign (Expr.Name _ _) Operator.Sub _ _) _ _); (with_reducible apply g1_subA); (with_reducible assumption); (assumption); (eq_refl); (eq_refl); (eq_refl); (first | exact .inl rfl | exact .inr rfl); (eq_refl))
  )
local macro_rules | `(tactic| fail "x8G13") => `(tactic| first
  | ((with_reducible show G1 _ _ (Stmt.Expr (Expr.Call (Expr.Attribute (Expr.Name _ _) "append" _) [_] _ _) _) _ _); (with_reducible apply g1_append); (eq_refl); (eq_refl); (eq_refl); rotate_left; (decide); (decide); (eq_refl); (eq_refl); (eq_refl); (exact star_cons rfl); (eq_refl))
  )
local macro_rules | `(tactic| fail "x8G14") => `(tactic| first
  | ((with_reducible show G1 _ _ (Stmt.Assign [Expr.Name "counts" _] (Expr.List [] _) _) _ _); (with_reducible apply set_l); (with_reducible assumption); (eq_refl); (eq_refl); rotate_left; (eq_refl))
  )
local macro_rules | `(tactic| fail "x8G1") => `(tactic| first
  | ((with_reducible show G1 _ _ (Stmt.AugAssign (Expr.Name _ _) Operator.Sub _ _) _ _); fail "x8G12")
  | ((with_reducible show G1 _ _ (Stmt.Expr (Expr.Call (Expr.Attribute (Expr.Name _ _) "append" _) [_] _ _) _) _ _); fail "x8G13")
  | ((with_reducible show G1 _ _ (Stmt.Assign [Expr.Name "counts" _] (Expr.List [] _) _) _ _); fail "x8G14")
  )
local macro_rules | `(tactic| fail "x8GT5") => `(tactic| first
  | ((with_reducible show GT _ _ (Expr.Compare _ [CmpOp.In] _ _) _ _); (with_reducible apply gt_inA); (first | with_reducible assumption | exact Bod.toCxt (by with_reducible assumption) | exact Cxt.blk (Bod.toCxt (by with_reducible assumption)) _ _ _ _ _ _ | exact Cxt.blk (Cxt.blk (Bod.toCxt (by with_reducible assumption)) _ _ _ _ _ _) _ _ _ _ _ _); (eq_refl))
  )
local macro_rules | `(tactic| infer_instance) => `(tactic| first
  | (with_reducible refine gs_nil ?_)
  | ((with_reducible show GE _ _ (Expr.Subscript (Expr.Name "_WHOLES" _) _ _) _ _); fail "x8GE0")
  | ((with_reducible show GI _ _ _ (Expr.Call (Expr.Name "reversed" _) [_] _ _) _ _); fail "x8GI1")
  | ((with_reducible show G1 _ _ _ _ _); fail "x8G1")
  | ((with_reducible show GT _ _ (Expr.Compare _ [CmpOp.In] _ _) _ _); fail "x8GT5")
  )
section
variable {P : Program} {w : World} {K : PySem.W.Frag} {mg : Str → Option Value} {base : Heap}
theorem sc_count_stretches : FnScope ["poll", "people", "whole", "stretches", "share", "low", "_", "high"] ["poll", "people"] (defScope s_count_stretches) := ⟨rfl, rfl, rfl, by decide +kernel, rfl, by decide +kernel, by decide +kernel⟩
theorem sc_stretches_for : FnScope ["poll", "people"] ["poll", "people"] (defScope s_stretches_for) := ⟨rfl, rfl, rfl, by decide +kernel, rfl, by decide +kernel, by decide +kernel⟩
theorem sc_first_counts : FnScope ["poll", "people", "stretches", "counts", "left", "low", "_", "high", "more"] ["poll", "people"] (defScope s_first_counts) := ⟨rfl, rfl, rfl, by decide +kernel, rfl, by decide +kernel, by decide +kernel⟩
def preCs (C : Addr) (ds : List PyData) : Prop := ∃ (q p : Int) (ns : List Int), ds = [inst C (pF q ns), .int p] ∧ place q ∧ Shs (wholeI q) ns ∧ 1 ≤ p ∧ p ≤ 3000
/-- the stretches of all shares -/
def stL (p u : Int) (ns : List Int) : List (Int × Int) := ns.map fun s => (loI s p u, hiI s p u)
def noneB (l : List (Int × Int)) : Bool := l.any fun x => decide (x.2 < x.1)
def loS (l : List (Int × Int)) : Int := (l.map (·.1)).sum
def hiS (l : List (Int × Int)) : Int := (l.map (·.2)).sum
def fitB (p : Int) (l : List (Int × Int)) : Bool := !noneB l && (decide (loS l ≤ p) && decide (p ≤ hiS l))
def strP (x : Int × Int) : PyData := .tuple [.int x.1, .int x.2]
def csO (p u : Int) (ns : List Int) : PyData := if fitB p (stL p u ns) = true then .list ((stL p u ns).map strP) else .none
def csD : List PyData → PyData
  | [.dict [_, (_, .int q), (_, .tuple xs), _], .int p] => csO p (wholeI q) (asIs xs)
  | _ => .none
theorem fil_intsD {ns : List Int} (g : Int → PyData) : ((List.range (intsD ns).length).filter fun _ => true).map (fun i => g (asI (nth (intsD ns) i))) = ns.map g := by
  rw [List.filter_eq_self.mpr fun _ _ => rfl]
  refine List.ext_getElem (by rw [List.length_map, List.length_range, List.length_map, List.length_map]) fun i h1 h2 => ?_
  have hi : i < ns.length := by rw [List.length_map] at h2; exact h2
  rw [List.getElem_map, List.getElem_range, nth_int hi, List.getElem_map] <;> rfl
theorem shaped_st {L : List PyData} (h : ∀ d ∈ L, d = .none ∨ ∃ a b : Int, d = .tuple [.int a, .int b]) : SeqAt.shaped (.list L) = true := by
  have k : PyData.canLayAll0 L = true ∧ PyData.depthAll L ≤ 1 := by
    induction L with
    | nil => exact ⟨rfl, Nat.zero_le _⟩
    | cons d L ih =>
      obtain ⟨i1, i2⟩ := ih fun x hx => h x (.tail _ hx)
      rcases h d (.head _) with rfl | ⟨a, b, rfl⟩
      · refine ⟨?_, ?_⟩
        · show (true && PyData.canLayAll0 L) = true
          rw [i1] <;> rfl
        · show max 0 (PyData.depthAll L) ≤ 1
          omega
      · refine ⟨?_, ?_⟩
        · show ((true && (true && true)) && PyData.canLayAll0 L) = true
          rw [i1] <;> rfl
        · show max (max 0 (max 0 0) + 1) (PyData.depthAll L) ≤ 1
          omega
  show (PyData.canLayAll0 L && decide (PyData.depthAll L + 1 ≤ 64)) = true
  rw [k.1, decide_eq_true (by omega)] <;> rfl
theorem cw_none {ns : List Int} {p u : Int} : (ns.map (fun n => cwO n p u)).any (fun z => PyData.eqv z .none) = noneB (stL p u ns) := by
  unfold noneB stL
  rw [List.any_map, List.any_map]
  congr 1
  funext n
  show PyData.eqv (cwO n p u) .none = decide (hiI n p u < loI n p u)
  unfold cwO
  by_cases h : hiI n p u < loI n p u
  · rw [if_pos h, decide_eq_true h] <;> rfl
  · rw [if_neg h, decide_eq_false h] <;> rfl
theorem cw_list {ns : List Int} {p u : Int} (h : noneB (stL p u ns) = false) : ns.map (fun n => cwO n p u) = (stL p u ns).map strP := by
  unfold stL
  rw [List.map_map]
  refine List.map_congr_left fun n hn => ?_
  have := List.any_eq_false.mp h (loI n p u, hiI n p u) (List.mem_map.mpr ⟨n, hn, rfl⟩)
  have : ¬ hiI n p u < loI n p u := fun z => this (decide_eq_true z)
  unfold cwO
  rw [if_neg this] <;> rfl
theorem nth_str {L : List (Int × Int)} {i : Nat} (h : i < L.length) : nth (L.map strP) i = strP L[i] := by
  rw [nth_at (List.getElem?_eq_getElem (by rw [List.length_map]; exact h)), List.getElem_map]
theorem getD_lt {L : List (Int × Int)} {i : Nat} (h : i < L.length) : L.getD i (0, 0) = L[i] := by
  rw [List.getD_eq_getElem?_getD, List.getElem?_eq_getElem h] <;> rfl
theorem fil_pair {L : List (Int × Int)} {g : Int × Int → Int} : ((List.range L.length).filter fun _ => true).map (fun i => PyData.int (g (L.getD i (0, 0)))) = intsD (L.map g) := by
  rw [List.filter_eq_self.mpr fun _ _ => rfl]
  refine List.ext_getElem (by rw [List.length_map, List.length_range, List.length_map, List.length_map]) fun i h1 h2 => ?_
  have hi : i < L.length := by rw [List.length_map, List.length_map] at h2; exact h2
  rw [List.getElem_map, List.getElem_range, getD_lt hi, List.getElem_map, List.getElem_map]
theorem ok_count_stretches {C : Addr} (DP : PropD P w K mg base C "places" "_places" 1) (DS : PropD P w K mg base C "shares" "_shares" 1) (F1 : Call P w K mg base (L2.CX P w) 1 "whole_of" ["places"] (spF 1 (fun ds => ∃ p : Int, ds = [.int p] ∧ place p) fun ds => .ok (wholeD ds))) (F2 : Call P w K mg base (L2.CX P w) 1 "counts_with" ["share", "people", "whole"] (spF 3 (fun ds => ∃ s p u : Int, ds = [.int s, .int p, .int u] ∧ (0 ≤ s ∧ s ≤ 1001) ∧ (1 ≤ p ∧ p ≤ 3000) ∧ (u = 100 ∨ u = 1000)) fun ds => .ok (cwD ds))) {f : Addr} {fd : FuncData} (F : Fun K "_count_stretches" "_count_stretches" s_count_stretches f fd) (sm : ∃ o, K.lookup sysModules = some o) (B : Gls mg) :
    FnG P w K mg base (L2.CX P w) 3 f fd ["poll", "people"] (spF 2 (preCs C) fun ds => .ok (csD ds)) := by
  refine fn_data F sc_count_stretches sm (by decide) _ _ fun cdv A outer s H E Bs ds hl hp c ex => ?_
  obtain ⟨q, p, ns, rfl, hq, hns, p0, p1⟩ := hp
  obtain ⟨pu, q0, q1⟩ := place_u hq
  have nd := sc_count_stretches.nd
  refine gs_cons ?_
  repeat infer_instance
  refine ⟨_, _, rfl, rfl, ?_⟩
  repeat infer_instance
  refine ⟨⟨q, rfl, hq⟩, ?_⟩
  show (Out.ok (.int (wholeI q))).to _ _
  repeat infer_instance
  ((with_reducible apply set_ld); (assumption); (assumption); (eq_refl); (eq_refl); (eq_refl); (eq_refl); (eq_refl); (eq_refl); (intro _; eq_refl))
  repeat infer_instance
  refine ⟨_, _, rfl, rfl, ?_⟩
  repeat infer_instance
  have h6 := hns.six
  refine ⟨Nat.le_trans (show (intsD ns).length ≤ 1000 by rw [List.length_map]; omega) (by decide), fun _ => true, fun i => cwO (asI (nth (intsD ns) i)) p (wholeI q), fun i hi B' => ?_, ?_⟩
  · have hi : i < ns.length := by rw [List.length_map] at hi; exact hi
    have ho := hns.ok _ (List.getElem_mem hi)
    have eN := nth_int hi
    generalize ns[i] = v at eN ho
    rw [eN]
    repeat infer_instance
    refine ⟨⟨v, p, _, rfl, ⟨ho.1, by omega⟩, ⟨p0, p1⟩, pu⟩, ?_⟩
    show (Out.ok (cwO v p (wholeI q))).to _ _
    refine to_ok ?_
    exact ⟨by show cwO v p (wholeI q) = cwO (asI (nth (intsD ns) i)) p (wholeI q); rw [eN] <;> rfl, rfl⟩
  rw [fil_intsD fun n => cwO n p (wholeI q)]
  have e1 : csD [inst C (pF q ns), .int p] = csO p (wholeI q) ns := by
    show csO p (wholeI q) (asIs (intsD ns)) = _
    rw [asIs_ints]
  rw [e1]
  have hLs : ∀ d ∈ ns.map (fun n => cwO n p (wholeI q)), d = .none ∨ ∃ a b : Int, d = .tuple [.int a, .int b] := fun d hd => by
    obtain ⟨n, _, rfl⟩ := List.mem_map.mp hd
    unfold cwO
    split
    · exact .inl rfl
    · exact .inr ⟨_, _, rfl⟩
  have hLn : (ns.map (fun n => cwO n p (wholeI q))).any (fun z => PyData.eqv z .none) = noneB (stL p (wholeI q) ns) := cw_none
  repeat infer_instance
  refine ⟨_, rfl, rfl, shaped_st hLs, ?_⟩
  rw [hLn]
  cases hN : noneB (stL p (wholeI q) ns)
  case true =>
    have e0 : csO p (wholeI q) ns = .none := by unfold csO fitB; rw [hN] <;> rfl
    rw [e0]
    repeat infer_instance
    exact rfl
  have e0 : csO p (wholeI q) ns = (if (decide (loS (stL p (wholeI q) ns) ≤ p) && decide (p ≤ hiS (stL p (wholeI q) ns))) = true then .list ((stL p (wholeI q) ns).map strP) else .none) := by unfold csO fitB; rw [hN] <;> rfl
  rw [e0, cw_list hN]
  clear e0
  have hL6 : (stL p (wholeI q) ns).length ≤ 6 := by unfold stL; rw [List.length_map]; exact h6
  generalize stL p (wholeI q) ns = L at hL6 ⊢
  repeat infer_instance
  ((with_reducible apply gf_lk); (eq_refl); (assumption); (eq_refl); (eq_refl); (eq_refl); (intro _; eq_refl))
  repeat infer_instance
  refine ⟨Nat.le_trans (show (L.map strP).length ≤ 1000 by rw [List.length_map]; omega) (by decide), fun _ => true, fun i => .int (L.getD i (0, 0)).1, fun i hi B' => ?_, ?_⟩
  · have hi : i < L.length := by rw [List.length_map] at hi; exact hi
    have eN : nth (L.map strP) i = strP L[i] := nth_str hi
    have eG : L.getD i (0, 0) = L[i] := getD_lt hi
    generalize L[i] = v at eN eG
    rw [eN]
    unfold strP
    repeat infer_instance
    exact ⟨by show PyData.int v.1 = .int (L.getD i (0, 0)).1; rw [eG], rfl⟩
  rw [show (L.map strP).length = L.length from List.length_map _, fil_pair (g := fun x => x.1)]
  refine sum_lst (ints_isI _) ?_
  rw [show (intsD (L.map fun x => x.1)).map asI = L.map fun x => x.1 from asIs_ints _]
  repeat infer_instance
  rw [show decide ((L.map fun x => x.1).sum > p) = !decide (loS L ≤ p) from by
    by_cases h : loS L ≤ p
    · rw [decide_eq_true h, decide_eq_false (show ¬ (L.map fun x => x.1).sum > p from Int.not_lt.mpr h)] <;> rfl
    · rw [decide_eq_false h, decide_eq_true (show (L.map fun x => x.1).sum > p from Int.not_le.mp h)] <;> rfl]
  cases hA : decide (loS L ≤ p)
  · repeat infer_instance
    exact rfl
  repeat infer_instance
  ((with_reducible apply gf_lk); (eq_refl); (assumption); (eq_refl); (eq_refl); (eq_refl); (intro _; eq_refl))
  repeat infer_instance
  refine ⟨Nat.le_trans (show (L.map strP).length ≤ 1000 by rw [List.length_map]; omega) (by decide), fun _ => true, fun i => .int (L.getD i (0, 0)).2, fun i hi B' => ?_, ?_⟩
  · have hi : i < L.length := by rw [List.length_map] at hi; exact hi
    have eN : nth (L.map strP) i = strP L[i] := nth_str hi
    have eG : L.getD i (0, 0) = L[i] := getD_lt hi
    generalize L[i] = v at eN eG
    rw [eN]
    unfold strP
    repeat infer_instance
    exact ⟨by show PyData.int v.2 = .int (L.getD i (0, 0)).2; rw [eG], rfl⟩
  rw [show (L.map strP).length = L.length from List.length_map _, fil_pair (g := fun x => x.2)]
  refine sum_lst (ints_isI _) ?_
  rw [show (intsD (L.map fun x => x.2)).map asI = L.map fun x => x.2 from asIs_ints _]
  repeat infer_instance
  rw [show decide ((L.map fun x => x.2).sum < p) = !decide (p ≤ hiS L) from by
    by_cases h : p ≤ hiS L
    · rw [decide_eq_true h, decide_eq_false (show ¬ (L.map fun x => x.2).sum < p from Int.not_lt.mpr h)] <;> rfl
    · rw [decide_eq_false h, decide_eq_true (show (L.map fun x => x.2).sum < p from Int.not_le.mp h)] <;> rfl]
  cases hB : decide (p ≤ hiS L)
  · repeat infer_instance
    exact rfl
  repeat infer_instance
  exact rfl
end
end K70
namespace K70
open PySem PySem.Spec PyProof.Rows L2 Tc Px Py
local macro_rules | `(tactic| fail "x9GE0") => `(tactic| first
  | ((with_reducible show GE _ _ (Expr.Subscript (Expr.Name "_WHOLES" _) _ _) _ _); (with_reducible apply ge_ixW); (exact ⟨rfl, rfl, rfl, rfl, rfl⟩); (assumption); (eq_refl); (exact fun _ _ => rfl); rotate_left; (decide))
  )
local macro_rules | `(tactic| fail "x9GI1") => `(tactic| first
  | ((with_reducible show GI _ _ _ (Expr.Call (Expr.Name "reversed" _) [_] _ _) _ _); (with_reducible apply gi_rev); (eq_refl); (eq_refl); (exact Gls.reversed (by assumption)); (exact star_cons rfl))
  )
local macro_rules | `(tactic| fail "x9G12") => `(tactic| first
  | ((with_reducible show G1 _ _ (Stmt.AugAssign (Expr.Name _ _) Operator.Sub _ _) _ _); (with_reducible apply g1_subA); (with_reducible assumption); (assumption); (eq_refl); (eq_refl); (eq_refl); (first | exact .inl rfl | exact .inr rfl); (eq_refl))
  )
local macro_rules | `(tactic| fail "x9G13") => `(tactic| first
  | ((with_reducible show G1 _ _ (Stmt.Expr (Expr.Call (Expr.Attribute (Expr.Name _ _) "append" _) [_] _ _) _) _ _); (with_reducible apply g1_append); (eq_refl); (eq_refl); (eq_refl); rotate_left; (decide); (decide); (eq_refl); (eq_refl); (eq_refl); (exact star_cons rfl); (eq_refl))
  )
local macro_rules | `(tactic| fail "x9G14") => `(tactic| first
  | ((with_reducible show G1 _ _ (Stmt.Assign [Expr.Name "counts" _] (Expr.List [] _) _) _ _); (with_reducible apply set_l); (with_reducible assumption); (eq_refl); (eq_refl); rotate_left; (eq_refl))
  )
local macro_rules | `(tactic| fail "x9G1") => `(tactic| first
  | ((with_reducible show G1 _ _ (Stmt.AugAssign (Expr.Name _ _) Operator.Sub _ _) _ _); fail "x9G12")
  | ((with_reducible show G1 _ _ (Stmt.Expr (Expr.Call (Expr.Attribute (Expr.Name _ _) "append" _) [_] _ _) _) _ _); fail "x9G13")
  | ((with_reducible show G1 _ _ (Stmt.Assign [Expr.Name "counts" _] (Expr.List [] _) _) _ _); fail "x9G14")
  )
local macro_rules | `(tactic| fail "x9GT5") => `(tactic| first
  | ((with_reducible show GT _ _ (Expr.Compare _ [CmpOp.In] _ _) _ _); (with_reducible apply gt_inA); (first | with_reducible assumption | exact Bod.toCxt (by with_reducible assumption) | exact Cxt.blk (Bod.toCxt (by with_reducible assumption)) _ _ _ _ _ _ | exact Cxt.blk (Cxt.blk (Bod.toCxt (by with_reducible assumption)) _ _ _ _ _ _) _ _ _ _ _ _); (eq_refl))
  )
local macro_rules | `(tactic| infer_instance) => `(tactic| first
  | (with_reducible refine gs_nil ?_)
  | ((with_reducible show GE _ _ (Expr.Subscript (Expr.Name "_WHOLES" _) _ _) _ _); fail "x9GE0")
  | ((with_reducible show GI _ _ _ (Expr.Call (Expr.Name "reversed" _) [_] _ _) _ _); fail "x9GI1")
  | ((with_reducible show G1 _ _ _ _ _); fail "x9G1")
  | ((with_reducible show GT _ _ (Expr.Compare _ [CmpOp.In] _ _) _ _); fail "x9GT5")
  )
section
variable {P : Program} {w : World} {K : PySem.W.Frag} {mg : Str → Option Value} {base : Heap}
theorem cs_eq {C : Addr} {q p : Int} {ns : List Int} : csD [inst C (pF q ns), .int p] = csO p (wholeI q) ns := by
  show csO p (wholeI q) (asIs (intsD ns)) = _
  rw [asIs_ints]
theorem ok_stretches_for {C : Addr} (F1 : Call P w K mg base (L2.CX P w) 1 "need_poll" ["poll"] (spF 1 (fun ds => ∃ fs, ds = [inst C fs]) fun _ => .ok .none)) (F2 : Call P w K mg base (L2.CX P w) 2 "need_people" ["people", "most"] (spF 2 (fun ds => ∃ p : Int, ds = [.int p, .none] ∧ 1 ≤ p) fun _ => .ok .none)) (F3 : Call P w K mg base (L2.CX P w) 3 "_count_stretches" ["poll", "people"] (spF 2 (preCs C) fun ds => .ok (csD ds))) {f : Addr} {fd : FuncData} (F : Fun K "_stretches_for" "_stretches_for" s_stretches_for f fd) (sm : ∃ o, K.lookup sysModules = some o) (B : Gls mg) :
    FnG P w K mg base (L2.CX P w) 4 f fd ["poll", "people"] (spF 2 (preCs C) fun ds => .ok (csD ds)) := by
  refine fn_data F sc_stretches_for sm (by decide) _ _ fun cdv A outer s H E Bs ds hl hp c ex => ?_
  obtain ⟨q, p, ns, rfl, hq, hns, p0, p1⟩ := hp
  have nd := sc_stretches_for.nd
  refine gs_cons ?_
  repeat infer_instance
  refine ⟨⟨_, rfl⟩, ?_⟩
  repeat infer_instance
  refine ⟨⟨p, rfl, p0⟩, ?_⟩
  repeat infer_instance
  refine ⟨⟨q, p, ns, rfl, hq, hns, p0, p1⟩, ?_⟩
  repeat infer_instance
  exact rfl
def mn (a b : Int) : Int := if b < a then b else a
/-- the counts from the last one on -/
def fl : Int → List (Int × Int) → List Int
  | _, [] => []
  | l, x :: R => (x.1 + mn l (x.2 - x.1)) :: fl (l - mn l (x.2 - x.1)) R
def lf : Int → List (Int × Int) → Nat → Int
  | l, _, 0 => l
  | l, [], _ + 1 => l
  | l, x :: R, i + 1 => lf (l - mn l (x.2 - x.1)) R i
theorem lf_zero {l : Int} : ∀ {R : List (Int × Int)}, lf l R 0 = l
  | [] => rfl
  | _ :: _ => rfl
theorem fl_len : ∀ (R : List (Int × Int)) (l : Int), (fl l R).length = R.length
  | [], _ => rfl
  | _ :: R, _ => congrArg (· + 1) (fl_len R _)
theorem fl_step : ∀ (R : List (Int × Int)) (l : Int) (i : Nat) (h : i < R.length), (fl l R)[i]? = some (R[i].1 + mn (lf l R i) (R[i].2 - R[i].1)) ∧ lf l R (i + 1) = lf l R i - mn (lf l R i) (R[i].2 - R[i].1)
  | [], _, _, h => nomatch h
  | x :: R, l, 0, _ => ⟨rfl, by cases R <;> rfl⟩
  | x :: R, l, i + 1, h => fl_step R _ i (Nat.lt_of_succ_lt_succ h)
def firstL (p : Int) (L : List (Int × Int)) : List Int := (fl (p - loS L) L.reverse).reverse
def firstP (p : Int) (L : List (Int × Int)) : PyData := if fitB p L = true then .tuple (intsD (firstL p L)) else .none
def firstCD : List PyData → PyData
  | [.dict [_, (_, .int q), (_, .tuple xs), _], .int p] => firstP p (stL p (wholeI q) (asIs xs))
  | _ => .none
theorem ok_first_counts {C : Addr} (F1 : Call P w K mg base (L2.CX P w) 4 "_stretches_for" ["poll", "people"] (spF 2 (preCs C) fun ds => .ok (csD ds))) {f : Addr} {fd : FuncData} (F : Fun K "first_counts" "first_counts" s_first_counts f fd) (sm : ∃ o, K.lookup sysModules = some o) (B : Gls mg) :
    FnG P w K mg base (L2.CX P w) 5 f fd ["poll", "people"] (spF 2 (preCs C) fun ds => .ok (firstCD ds)) := by
  refine fn_data F sc_first_counts sm (by decide) _ _ fun cdv A outer s H E Bs ds hl hp c ex => ?_
  obtain ⟨q, p, ns, rfl, hq, hns, p0, p1⟩ := hp
  have nd := sc_first_counts.nd
  have e0 : firstCD [inst C (pF q ns), .int p] = firstP p (stL p (wholeI q) ns) := by
    show firstP p (stL p (wholeI q) (asIs (intsD ns))) = _
    rw [asIs_ints]
  rw [e0]
  refine gs_cons ?_
  repeat infer_instance
  refine ⟨⟨q, p, ns, rfl, hq, hns, p0, p1⟩, ?_⟩
  rw [cs_eq]
  have hL6 : (stL p (wholeI q) ns).length ≤ 6 := by unfold stL; rw [List.length_map]; exact hns.six
  unfold csO firstP
  generalize stL p (wholeI q) ns = L at hL6 ⊢
  cases fitB p L
  · rw [if_neg (by decide), if_neg (by decide)]
    repeat infer_instance
    show if true = true then _ else _
    repeat infer_instance
    exact rfl
  rw [if_pos rfl, if_pos rfl]
  repeat infer_instance
  show if false = true then _ else _
  repeat infer_instance
  ((with_reducible apply gf_lk); (eq_refl); (assumption); (eq_refl); (eq_refl); (eq_refl); (intro _; eq_refl))
  repeat infer_instance
  refine ⟨Nat.le_trans (show (L.map strP).length ≤ 1000 by rw [List.length_map]; omega) (by decide), fun _ => true, fun i => .int (L.getD i (0, 0)).1, fun i hi B' => ?_, ?_⟩
  · have hi : i < L.length := by rw [List.length_map] at hi; exact hi
    have eN : nth (L.map strP) i = strP L[i] := nth_str hi
    have eG : L.getD i (0, 0) = L[i] := getD_lt hi
    generalize L[i] = v at eN eG
    rw [eN]
    unfold strP
    repeat infer_instance
    exact ⟨by show PyData.int v.1 = .int (L.getD i (0, 0)).1; rw [eG], rfl⟩
  rw [show (L.map strP).length = L.length from List.length_map _, fil_pair (g := fun x => x.1)]
  refine sum_lst (ints_isI _) ?_
  rw [show (intsD (L.map fun x => x.1)).map asI = L.map fun x => x.1 from asIs_ints _]
  repeat infer_instance
  have eS : (L.map fun x => x.1).sum = loS L := rfl
  rw [eS]
  refine ⟨fun i Γ => ∃ (a2 : Addr) (s5 s6 s7 s8 : Sl), Γ = [.d (inst C (pF q ns)), .d (.int p), .d (.list (L.map strP)), .own a2 (intsD ((fl (p - loS L) L.reverse).take i)), .d (.int (lf (p - loS L) L.reverse i)), s5, s6, s7, s8], ⟨_, .no, .no, .no, .no, by rw [lf_zero] <;> rfl⟩, fun _ _ _ _ => trivial, ?_, ?_⟩
  · rintro i Γ hi ⟨a2, s5, s6, s7, s8, rfl⟩
    have hi : i < L.reverse.length := by rw [List.length_map] at hi; rw [List.length_reverse]; exact hi
    obtain ⟨h1, h2⟩ := fl_step L.reverse (p - loS L) i hi
    have h3 : (fl (p - loS L) L.reverse).take (i + 1) = (fl (p - loS L) L.reverse).take i ++ [L.reverse[i].1 + mn (lf (p - loS L) L.reverse i) (L.reverse[i].2 - L.reverse[i].1)] := by
      rw [List.take_succ, h1] <;> rfl
    have h4 : ((fl (p - loS L) L.reverse).take i).length ≤ 6 := by
      rw [List.length_take, fl_len, List.length_reverse]
      omega
    have eN : nth (L.map strP) ((L.map strP).length - 1 - i) = strP L.reverse[i] := by
      rw [List.length_reverse] at hi
      rw [List.length_map, nth_str (show L.length - 1 - i < L.length by omega), List.getElem_reverse]
    show GG _ _ _ (nth (L.map strP) ((L.map strP).length - 1 - i)) _ _
    rw [eN]
    generalize L.reverse[i] = v at h2 h3
    generalize (fl (p - loS L) L.reverse).take i = pre at h3 h4 ⊢
    generalize lf (p - loS L) L.reverse i = lft at h2 h3 ⊢
    unfold strP
    repeat infer_instance
    refine ⟨Nat.lt_of_le_of_lt (show (intsD pre).length ≤ 1000 by rw [List.length_map]; omega) (by decide), ?_⟩
    repeat infer_instance
    refine ⟨a2, .d (.int v.1), s6, .d (.int v.2), .d (.int (mn lft (v.2 - v.1))), ?_⟩
    rw [h3, h2, show intsD (pre ++ [v.1 + mn lft (v.2 - v.1)]) = intsD pre ++ [.int (v.1 + mn lft (v.2 - v.1))] from List.map_append] <;> rfl
  rintro Γ ⟨a2, s5, s6, s7, s8, rfl⟩
  show Gs _ _ _ _ _
  refine gs_cons ?_
  repeat infer_instance
  rw [show (fl (p - loS L) L.reverse).take (L.map strP).length = fl (p - loS L) L.reverse from List.take_of_length_le (by rw [fl_len, List.length_reverse, List.length_map]; exact Nat.le_refl _)]
  show Out.ok (.tuple (intsD (firstL p L))) = Out.ok (.tuple (intsD (fl (p - loS L) L.reverse)).reverse)
  unfold firstL intsD
  rw [List.map_reverse]
end
end K70
namespace K70
open PySem PySem.Spec PyProof.Rows L2 Tc Px Py
local macro_rules | `(tactic| infer_instance) => `(tactic| (with_reducible refine gs_nil ?_))
section
variable {P : Program} {w : World} {K : PySem.W.Frag} {mg : Str → Option Value} {base : Heap}
/-- a well -/
def Well (ps : List PyData) : Prop := ∃ a b c : Int, ps = [.int a, .int b, .int c] ∧ 0 ≤ a ∧ 0 ≤ b ∧ b < 2147483423
def preDraw (ps ds : List PyData) : Prop := Well ps ∧ ∃ top : Int, ds = [.int top] ∧ 0 < top ∧ top < 2 ^ 120
theorem divp_ok {i j : Int} (h : 0 < j) (h2 : j.natAbs < 2 ^ 600) : CDivP i j := ⟨h, PyProof.noPylong_of_log2 (wide_div h h2 (by decide) (by decide) : CDivW i j).2⟩
/-- a number below the given one, the well a draw further -/
def RDraw (ps ds : List PyData) (o : Out) (ps' : List PyData) : Prop := Well ps' ∧ ∃ t top : Int, ds = [.int top] ∧ o = .ok (.int t) ∧ 0 ≤ t ∧ t < top
theorem sc_ldraw : FnScope ["_law_well_here", "_law_top", "_law_old", "_law_figure"] ["_law_well_here", "_law_top"] (defScope s_ldraw) := ⟨rfl, rfl, rfl, by decide +kernel, rfl, by decide +kernel, by decide +kernel⟩
theorem ok_draw {f : Addr} {fd : FuncData} (F : Fun K "_law_draw" "_law_draw" s_ldraw f fd) (sm : ∃ o, K.lookup sysModules = some o) (B : Gls mg) :
    FnG P w K mg base (L2.CX P w) 1 f fd ["_law_well_here", "_law_top"] (spP 1 preDraw RDraw) := by
  refine fn_pail F sc_ldraw sm rfl _ _ fun cdv A outer s H E Bs ad ms ds hl hp c ex => ?_
  have nd := sc_ldraw.nd
  obtain ⟨⟨a, b, c0, rfl, ha, hb, hb2⟩, top, rfl, ht, ht2⟩ := hp
  refine gs_cons ?_
  repeat infer_instance
  generalize h1 : decide (0 < a) = t
  cases t
  case false =>
    repeat infer_instance
    exact ⟨⟨a, _, _, rfl, ha, Int.emod_nonneg _ (by decide), Int.emod_lt_of_pos _ (by decide)⟩, _, top, rfl, rfl, Int.emod_nonneg _ (by omega), Int.emod_lt_of_pos _ ht⟩
  repeat infer_instance
  refine ⟨divp_ok ht (by omega), ?_⟩
  repeat infer_instance
  exact ⟨⟨_, _, _, rfl, Int.ediv_nonneg ha (by omega), Int.emod_nonneg _ (by decide), Int.emod_lt_of_pos _ (by decide)⟩, _, top, rfl, rfl, Int.emod_nonneg _ (by omega), Int.emod_lt_of_pos _ ht⟩
def preOf (ps ds : List PyData) : Prop := Well ps ∧ ∃ xs : List PyData, ds = [.list xs] ∧ 0 < xs.length ∧ xs.length < 2 ^ 30
def ROf (ps ds : List PyData) (o : Out) (ps' : List PyData) : Prop := Well ps' ∧ ∃ (xs : List PyData) (d : PyData), ds = [.list xs] ∧ d ∈ xs ∧ o = .ok d
theorem at_mem {xs : List PyData} {t : Int} (h0 : 0 ≤ t) (h1 : t < xs.length) {k : PyData → Prop} (h : ∀ d ∈ xs, k d) : IxD (.list xs) (.int t) k := by
  have l : t.toNat < xs.length := by omega
  refine ⟨xs[t.toNat], ?_, h _ (List.getElem_mem l)⟩
  unfold atD ixN
  first
    | (rw [if_pos ⟨h0, h1⟩] <;> exact List.getElem?_eq_getElem l)
    | (simp only [h0, h1, l, if_true, and_self, if_false, Option.bind_some] <;> simp [h0, h1, l])
theorem sc_lof : FnScope ["_law_well_here", "_law_menu"] ["_law_well_here", "_law_menu"] (defScope s_lof) := ⟨rfl, rfl, rfl, by decide +kernel, rfl, by decide +kernel, by decide +kernel⟩
theorem ok_of (F1 : Call P w K mg base (L2.CX P w) 1 "_law_draw" ["_law_well_here", "_law_top"] (spP 1 preDraw RDraw)) {f : Addr} {fd : FuncData} (F : Fun K "_law_of" "_law_of" s_lof f fd) (sm : ∃ o, K.lookup sysModules = some o) (B : Gls mg) :
    FnG P w K mg base (L2.CX P w) 2 f fd ["_law_well_here", "_law_menu"] (spP 1 preOf ROf) := by
  refine fn_pail F sc_lof sm rfl _ _ fun cdv A outer s H E Bs ad ms ds hl hp c ex => ?_
  have nd := sc_lof.nd
  obtain ⟨hw, xs, rfl, h0, h1⟩ := hp
  refine gs_cons ?_
  repeat infer_instance
  refine ⟨⟨hw, _, rfl, by omega, by omega⟩, fun o ms' hR => ?_⟩
  obtain ⟨hw2, t, top, e, rfl, t0, t1⟩ := hR
  cases e
  refine to_ok (at_mem t0 t1 fun d hd => ?_)
  repeat infer_instance
  exact ⟨hw2, xs, d, rfl, hd, rfl⟩
theorem sc_lwell : FnScope ["_law_script", "_law_k", "_law_own", "_law_mixed", "_law_each"] ["_law_script", "_law_k"] (defScope s_lwell) := ⟨rfl, rfl, rfl, by decide +kernel, rfl, by decide +kernel, by decide +kernel⟩
theorem g_lwell : ∀ x ∈ (["int", "len", "abs"] : List Str), (defScope s_lwell).names.lookup x = some .globalImplicit := by decide +kernel
def spWell (K : PySem.W.Frag) : Sp := fun vs H Q _ => ∃ (a : Addr) (ns : List Int) (k : Nat), vs = [.ref a, .int k] ∧ k < 5 ∧ SqL K H a (ns.map V.int) ∧ ns.length ≤ 63 ∧
  ∀ (H' : Hp) (p : Addr), H p = none → Same H H' → (∃ x y : Int, H' p = some (.lst [.int x, .int y, .int 0]) ∧ 0 ≤ x ∧ 0 ≤ y ∧ y < 2147483423) → Q (.ref p) H'
theorem mem_of_cut {ns : List Int} {lo hi : Option Int} {o : Int} {i : Nat} {y : V} (h : (cutV (ns.map V.int) lo hi ++ [V.int o])[i]? = some y) : ∃ z, y = V.int z := by
  have m : y ∈ cutV (ns.map V.int) lo hi ++ [V.int o] := List.mem_of_getElem? h
  rcases List.mem_append.mp m with m | m
  · have m2 := List.mem_of_mem_drop (List.mem_of_mem_take m)
    obtain ⟨z, _, e⟩ := List.mem_map.mp m2
    exact ⟨z, e.symm⟩
  · exact ⟨o, List.mem_singleton.mp m⟩
theorem ok_well {f : Addr} {fd : FuncData} (F : Fun K "_law_well" "_law_well" s_lwell f fd) (B : Gls mg) :
    FnOk P w K mg base CX0 1 f fd ["_law_script", "_law_k"] (spWell K) := by
  refine F.ok sc_lwell (fun vs H Q E h => ?_) (fun cdv A outer s H vs Q E hr h => ?_)
  · obtain ⟨a, ns, k, rfl, _⟩ := h
    rfl
  · obtain ⟨a, ns, k, rfl, hk, hS, hlen, hQ⟩ := h
    refine ⟨_, pss_mid (ps_set (i := 2) sc_lwell.nd rfl (.inl rfl) (pe_ifExp (pt_cmpR op_lt (pv 1) (pe_callB call_len (g_lwell _ (.tail _ (.head _))) B.len (by decide +kernel) (pa_cons (pv 0) pa_nil)) (nomark _))
        (pe_callTy call_int1 (g_lwell _ (.head _)) B.int (by decide +kernel) (pa_cons (pe_ix ix_list (pv 0) (pv 1) (fun _ _ => rfl)) pa_nil)) (pe_op op_add (pe_op op_mul pe_int (pv 1)) pe_int)))
      (pss_cons (ps_set (i := 3) sc_lwell.nd rfl (.inl rfl) (pe_op op_add pe_int (pe_op op_mul pe_int (pv 1))))
      (pss_cons (ps_for PassesOwn.never rfl (pi_list (pe_op op_cat (pe_slice sl_list (pv 0) po_none (po_some pe_int)) (pe_lst (pa_cons (pv 2) pa_nil)))) (pg_name (i := 4) sc_lwell.nd rfl (.inl rfl))
        (pss_one (ps_set (i := 3) sc_lwell.nd rfl (.inl rfl) (pe_op op_mod (pe_callTy call_int1 (g_lwell _ (.head _)) B.int (by decide +kernel)
          (pa_cons (pe_op op_add (pe_op op_mul (pv 3) pe_int) (pe_callTy call_int1 (g_lwell _ (.head _)) B.int (by decide +kernel) (pa_cons (pv 4) pa_nil))) pa_nil)) pe_int))))
      (pss_one (ps_ret (pe_lst (pa_cons (pe_ifExp (PW.pt (pw_or (pt_cmpR op_lt (pv 2) pe_int (nomark _)) (pw_or1 (pt_cmpR op_ge (pv 2) (pe_op op_pow pe_int pe_int) (nomark _)))))
        (pe_callB call_abs (g_lwell _ (.tail _ (.tail _ (.head _)))) B.abs (by decide +kernel) (pa_cons (pv 2) pa_nil)) pe_int) (pa_cons (pv 3) (pa_cons pe_int pa_nil)))))))), ?_⟩
    refine ⟨fun σ' H' => H' = H ∧ ∃ z : Int, σ' = [some (.ref a), some (.int k), some (.int z), none, none], ?_, ?_⟩
    · refine ⟨_, rfl, _, rfl, _, _, rfl, .inl ⟨_, hS, rfl⟩, _, _, rfl, rfl, _, rfl, ?_⟩
      refine ite2 (fun hc => ?_) (fun _ => ?_)
      · rw [List.length_map] at hc
        have hk2 : k < ns.length := by have := of_decide_eq_true hc; omega
        have hat : atI (ns.map V.int) (k : Int) = some (V.int ns[k]) := atI_nat (by simp [hk2])
        exact ⟨_, rfl, _, rfl, a, _, _, _, rfl, rfl, hS, hat, .inl ⟨_, rfl, rfl, _, rfl⟩⟩
      · exact ⟨_, rfl, _, _, rfl, rfl, .inl ⟨by decide, by decide⟩, _, _, rfl, rfl, rfl, _, rfl⟩
    rintro σ' H' ⟨rfl, z, rfl⟩
    refine ⟨_, rfl, _, _, rfl, rfl, .inl ⟨by decide, by decide⟩, _, _, rfl, rfl, ?_⟩
    refine ⟨_, rfl, _, rfl, a, _, rfl, hS, fun p hp => ?_⟩
    refine ⟨_, rfl, (show 1 ≤ sizeLine by decide), fun p2 hp2 => ?_⟩
    have n12 : p ≠ p2 := fun e => by rw [← e, upd_same] at hp2; cases hp2
    have lc : (cutV (ns.map V.int) none (some 40)).length ≤ 63 := by
      unfold cutV
      rw [List.length_take, List.length_drop, List.length_map]
      omega
    refine ⟨p, p2, _, _, rfl, rfl, (upd_ne n12).trans upd_same, upd_same, Nat.le_trans (show _ + 1 ≤ 64 by omega) (by decide), fun p3 hp3 => ?_⟩
    have s0 : Same H' (upd (upd (upd H' p (.lst (cutV (ns.map V.int) none (some 40)))) p2 (.lst [V.int z])) p3 (.lst (cutV (ns.map V.int) none (some 40) ++ [V.int z]))) := (Same.new hp).trans ((Same.new hp2).trans (Same.new hp3))
    generalize hU : upd (upd (upd H' p (.lst (cutV (ns.map V.int) none (some 40)))) p2 (.lst [V.int z])) p3 (.lst (cutV (ns.map V.int) none (some 40) ++ [V.int z])) = U at s0 ⊢
    have hl : U p3 = some (.lst (cutV (ns.map V.int) none (some 40) ++ [V.int z])) := by rw [← hU]; exact upd_same
    refine ⟨p3, rfl, ⟨_, .inl (.inl hl)⟩, for_list (K := K) (a := p3) (xs := cutV (ns.map V.int) none (some 40) ++ [V.int z])
      (fun _ σ H2 => ∃ (mixed : Int) (v : Option V), σ = [some (.ref a), some (.int k), some (.int z), some (.int mixed), v] ∧
        Same U H2 ∧ 0 ≤ mixed ∧ mixed < 2147483423)
      ⟨_, none, rfl, Same.refl _, by omega, by omega⟩ (fun _ _ _ _ ⟨_, _, _, s2, _⟩ => .inl (.inl (s2 _ _ hl))) ?_ ?_⟩
    · rintro i y σ H2 hi ⟨mixed, v, rfl, s2, h0, h1⟩
      obtain ⟨e, rfl⟩ := mem_of_cut hi
      refine ⟨_, rfl, _, _, rfl, rfl, .inr ⟨by decide, by decide⟩, _, rfl, .inl ⟨_, rfl, _, _, rfl, rfl, .inl ⟨_, rfl, _, _, rfl, rfl, ?_, ?_⟩⟩⟩
      · show (0 : Int) < 2147483423
        decide
      · exact ⟨_, _, rfl, s2, Int.emod_nonneg _ (by decide), Int.emod_lt_of_pos _ (by decide)⟩
    · rintro σ H2 ⟨mixed, v, rfl, s2, h0, h1⟩
      have s3 : Same H' H2 := s0.trans s2
      have absd : ∀ z : Int, 0 ≤ (if z < 0 then -z else z) := fun z => by split <;> omega
      have fin : ∀ d : Int, 0 ≤ d → ∀ p2, H2 p2 = none → Q (.ref p2) (upd H2 p2 (.lst [V.int d, V.int mixed, V.int 0])) := fun d hd p2 hp2 => hQ _ p2 (s3.free hp2) (s3.trans (Same.new hp2)) ⟨d, mixed, upd_same, hd, h0, h1⟩
      refine ⟨_, rfl, _, _, rfl, rfl, _, rfl, ?_⟩
      refine ite2 (fun _ => ?_) (fun _ => ?_)
      · exact ⟨_, rfl, _, rfl, _, rfl, (show 3 ≤ sizeLine by decide), fin _ (absd _)⟩
      · refine ⟨_, rfl, _, _, rfl, rfl, ⟨by decide, by decide, by decide⟩, _, _, rfl, rfl, _, rfl, ?_⟩
        refine ite2 (fun _ => ?_) (fun _ => ?_)
        · exact ⟨_, rfl, _, rfl, _, rfl, (show 3 ≤ sizeLine by decide), fin _ (absd _)⟩
        · exact ⟨_, rfl, (show 3 ≤ sizeLine by decide), fin 0 (by decide)⟩
end
end K70
namespace K70
open PySem PySem.Spec PyProof.Rows L2 Tc Px Py
local macro_rules | `(tactic| fail "x11G10") => `(tactic| first
  | ((with_reducible show G1 _ _ (Stmt.Assign [Expr.Tuple [Expr.Name _ _, Expr.Name _ _] _ _] (Expr.Tuple [Expr.BinOp (Expr.List _ _) Operator.Mult _ _, _] _ _) _) _ _); (with_reducible apply par_on); (with_reducible assumption); (assumption); (eq_refl); (eq_refl); (eq_refl); (eq_refl); (eq_refl); (eq_refl); (eq_refl); (eq_refl); (exact star_cons rfl); (exact star_cons rfl))
  )
local macro_rules | `(tactic| fail "x11G11") => `(tactic| first
  | ((with_reducible show G1 _ _ (Stmt.Assign [Expr.Name "_law_longer" _] (Expr.List [] _) _) _ _); (with_reducible apply set_l); (with_reducible assumption); (eq_refl); (eq_refl); rotate_left; (eq_refl))
  )
local macro_rules | `(tactic| fail "x11G12") => `(tactic| first
  | ((with_reducible show G1 _ _ (Stmt.Assign [Expr.Name "_law_found_here" _] (Expr.List [] _) _) _ _); (with_reducible apply set_l); (with_reducible assumption); (eq_refl); (eq_refl); rotate_left; (eq_refl))
  )
local macro_rules | `(tactic| fail "x11G13") => `(tactic| first
  | ((with_reducible show G1 _ _ (Stmt.Expr (Expr.Call (Expr.Attribute (Expr.Name _ _) "append" _) [_] _ _) _) _ _); (with_reducible apply g1_append); (eq_refl); (eq_refl); (eq_refl); rotate_left; (decide); (decide); (eq_refl); (eq_refl); (eq_refl); (exact star_cons rfl); (eq_refl))
  )
local macro_rules | `(tactic| fail "x11G14") => `(tactic| first
  | ((with_reducible show G1 _ _ (Stmt.Assign [Expr.Tuple [Expr.Name _ _, Expr.Name _ _] _ _] (Expr.Tuple [Expr.List _ _, _] _ _) _) _ _); (with_reducible apply par_on); (with_reducible assumption); (assumption); (eq_refl); (eq_refl); (eq_refl); (eq_refl); (eq_refl); (eq_refl); (eq_refl); (eq_refl); (exact star_cons rfl); (exact star_cons rfl))
  )
local macro_rules | `(tactic| fail "x11G1") => `(tactic| first
  | ((with_reducible show G1 _ _ (Stmt.Assign [Expr.Tuple [Expr.Name _ _, Expr.Name _ _] _ _] (Expr.Tuple [Expr.BinOp (Expr.List _ _) Operator.Mult _ _, _] _ _) _) _ _); fail "x11G10")
  | ((with_reducible show G1 _ _ (Stmt.Assign [Expr.Name "_law_longer" _] (Expr.List [] _) _) _ _); fail "x11G11")
  | ((with_reducible show G1 _ _ (Stmt.Assign [Expr.Name "_law_found_here" _] (Expr.List [] _) _) _ _); fail "x11G12")
  | ((with_reducible show G1 _ _ (Stmt.Expr (Expr.Call (Expr.Attribute (Expr.Name _ _) "append" _) [_] _ _) _) _ _); fail "x11G13")
  | ((with_reducible show G1 _ _ (Stmt.Assign [Expr.Tuple [Expr.Name _ _, Expr.Name _ _] _ _] (Expr.Tuple [Expr.List _ _, _] _ _) _) _ _); fail "x11G14")
  )
local macro_rules | `(tactic| fail "x11GT5") => `(tactic| first
  | ((with_reducible show GT _ _ (Expr.Compare _ [CmpOp.NotEq] [Expr.List [] _] _) _ _); (with_reducible apply gt_neL); (first | with_reducible assumption | exact Bod.toCxt (by with_reducible assumption) | exact Cxt.blk (Bod.toCxt (by with_reducible assumption)) _ _ _ _ _ _ | exact Cxt.blk (Cxt.blk (Bod.toCxt (by with_reducible assumption)) _ _ _ _ _ _) _ _ _ _ _ _))
  )
local macro_rules | `(tactic| infer_instance) => `(tactic| first
  | ((with_reducible show G1 _ _ _ _ _); fail "x11G1")
  | ((with_reducible show GQ _ _ false (Expr.Name _ _) _ _); (with_reducible refine gq_of ?_))
  | ((with_reducible show GT _ _ (Expr.Compare _ [CmpOp.NotEq] [Expr.List [] _] _) _ _); fail "x11GT5")
  | ((with_reducible show ∃ d1 d2 d3, _ = [d1, d2, d3] ∧ _); refine ⟨_, _, _, rfl, rfl, rfl, rfl, ?_⟩)
  | ((with_reducible show ∀ B0 : Bas, GE B0 _ _ _ _); intro _)
  | ((with_reducible show ∃ ds0, _ = (if false = true then PyData.list ds0 else PyData.tuple ds0) ∧ _); refine ⟨_, rfl, ?_⟩)
  )
section
variable {P : Program} {w : World} {K : PySem.W.Frag} {mg : Str → Option Value} {base : Heap}
theorem sc_lnear : FnScope ["_law_unit", "_law_one", "_law_people"] ["_law_unit", "_law_one", "_law_people"] (defScope s_lnear) := ⟨rfl, rfl, rfl, by decide +kernel, rfl, by decide +kernel, by decide +kernel⟩
theorem sc_ldealt : FnScope ["_law_well_here", "_law_many", "_law_people", "_law_found_here", "_law_rest", "_law_turn", "_law_at"] ["_law_well_here", "_law_many", "_law_people"] (defScope s_ldealt) := ⟨rfl, rfl, rfl, by decide +kernel, rfl, by decide +kernel, by decide +kernel⟩
abbrev unit (u : Int) : Prop := u = 100 ∨ u = 1000
def preNear (ds : List PyData) : Prop := ∃ u o p : Int, ds = [.int u, .int o, .int p] ∧ unit u ∧ 0 < p ∧ p < 2 ^ 500
def nearLD : List PyData → PyData
  | [.int u, .int o, .int p] => .int (nearI (u * o) p)
  | _ => .none
theorem ok_near {f : Addr} {fd : FuncData} (F : Fun K "_law_near" "_law_near" s_lnear f fd) (sm : ∃ o, K.lookup sysModules = some o) (B : Gls mg) :
    FnG P w K mg base (L2.CX P w) 1 f fd ["_law_unit", "_law_one", "_law_people"] (spF 3 preNear fun ds => .ok (nearLD ds)) := by
  refine fn_data F sc_lnear sm (by decide) _ _ fun cdv A outer s H E Bs ds hl hp c ex => ?_
  obtain ⟨u, o, p, rfl, hu, p0, p1⟩ := hp
  have nd := sc_lnear.nd
  refine gs_cons ?_
  have e : nearI (u * o) p = (2 * u * o + p) / (2 * p) := by unfold nearI; rw [Int.mul_assoc]
  repeat infer_instance
  show Out.ok (.int (nearI (u * o) p)) = Out.ok (.int ((2 * u * o + p) / (2 * p)))
  rw [e]
theorem at_snoc {xs : List PyData} {d : PyData} {k : PyData → Prop} (h : k d) : IxD (.list (xs ++ [d])) (.int (-1)) k := by
  refine ⟨d, ?_, h⟩
  have l : (xs ++ [d]).length = xs.length + 1 := by rw [List.length_append] <;> rfl
  unfold atD ixN
  rw [if_neg (by decide), if_pos (by omega)]
  show (xs ++ [d])[((-1 : Int) + ((xs ++ [d]).length : Int)).toNat]? = _
  rw [show ((-1 : Int) + ((xs ++ [d]).length : Int)).toNat = xs.length by omega, List.getElem?_append_right (Nat.le_refl _), Nat.sub_self] <;> rfl
theorem cut_from {xs : List PyData} {v : Int} (h0 : 0 ≤ v) (h1 : v ≤ xs.length) : Px.cutD xs (some v) none = xs.drop v.toNat := by
  unfold Px.cutD
  rw [show HT.sIx xs.length 0 (some v) = v.toNat from by show (if v < 0 then _ else min v.toNat xs.length) = _; rw [if_neg (by omega)]; omega]
  exact List.take_of_length_le (by rw [List.length_drop]; exact Nat.le_refl _)
theorem cut_to {xs : List PyData} {v : Int} (h0 : 0 ≤ v) (h1 : v ≤ xs.length) : Px.cutD xs none (some v) = xs.take v.toNat := by
  unfold Px.cutD
  rw [show HT.sIx xs.length xs.length (some v) = v.toNat from by show (if v < 0 then _ else min v.toNat xs.length) = _; rw [if_neg (by omega)]; omega]
  rfl
def preDe (ps ds : List PyData) : Prop := Well ps ∧ ∃ m p : Int, ds = [.int m, .int p] ∧ 2 ≤ m ∧ m ≤ 6 ∧ 0 ≤ p ∧ p ≤ 100000
def RDe (_ ds : List PyData) (o : Out) (ps' : List PyData) : Prop := Well ps' ∧ ∃ (m p : Int) (ns : List Int), ds = [.int m, .int p] ∧ o = .ok (.list (intsD ns)) ∧ (ns.length : Int) = m ∧ (∀ n ∈ ns, 0 ≤ n) ∧ ns.sum = p
theorem ok_dealt (F1 : Call P w K mg base (L2.CX P w) 1 "_law_draw" ["_law_well_here", "_law_top"] (spP 1 preDraw RDraw)) {f : Addr} {fd : FuncData} (F : Fun K "_law_dealt" "_law_dealt" s_ldealt f fd) (sm : ∃ o, K.lookup sysModules = some o) (B : Gls mg) :
    FnG P w K mg base (L2.CX P w) 2 f fd ["_law_well_here", "_law_many", "_law_people"] (spP 2 preDe RDe) := by
  refine fn_pail F sc_ldealt sm rfl _ _ fun cdv A outer s H E Bs ad ms ds hl hp c ex => ?_
  obtain ⟨hw, m, p, rfl, m2, m6, p0, p1⟩ := hp
  have nd := sc_ldealt.nd
  refine gs_cons ?_
  repeat infer_instance
  refine ⟨by omega, by omega, fun i Γ => ∃ (a2 : Addr) (ms2 : List PyData) (s5 s6 : Sl) (fs : List Int) (r : Int), Γ = [.own ad ms2, .d (.int m), .d (.int p), .own a2 (intsD fs), .d (.int r), s5, s6] ∧ Well ms2 ∧ fs.length = i ∧ (∀ n ∈ fs, 0 ≤ n) ∧ 0 ≤ r ∧ fs.sum + r = p, ⟨_, _, _, _, [], p, rfl, hw, rfl, fun _ h => (nomatch h), p0, by show 0 + p = p; omega⟩, fun _ _ _ _ => trivial, ?_, ?_⟩
  · clear hw
    rintro i Γ hi ⟨a2, ms2, s5, s6, fs, r, rfl, hw, hf, hn, r0, er⟩
    have hi : (i : Int) < m - 1 := by omega
    have hs := sum_ge hn
    repeat infer_instance
    refine ⟨⟨hw, _, rfl, by first | decide | omega, by first | decide | omega⟩, fun o ms1 hR => ?_⟩
    clear hw
    obtain ⟨hw, v, top, e, rfl, v0, v1⟩ := hR
    cases e
    refine to_ok ?_
    repeat infer_instance
    refine ⟨Nat.lt_of_le_of_lt (show (intsD fs).length ≤ 1000 by rw [List.length_map]; omega) (by decide), ?_⟩
    repeat infer_instance
    refine at_snoc ?_
    repeat infer_instance
    repeat (with_reducible refine gs_nil ?_)
    refine ⟨a2, ms1, _, _, fs ++ [v], r - v, by rw [show intsD (fs ++ [v]) = intsD fs ++ [.int v] from List.map_append] <;> rfl, hw, by rw [List.length_append, hf] <;> rfl, fun n hn2 => ?_, by omega, by rw [List.sum_append]; show fs.sum + (v + 0) + (r - v) = p; omega⟩
    rcases List.mem_append.mp hn2 with h | h
    · exact hn n h
    · rw [List.mem_singleton.mp h]
      exact v0
  clear hw
  rintro Γ ⟨a2, ms2, s5, s6, fs, r, rfl, hw, hf, hn, r0, er⟩
  repeat infer_instance
  have hf2 : (fs.length : Int) = m - 1 := by omega
  refine ⟨Nat.lt_of_le_of_lt (show (intsD fs).length ≤ 1000 by rw [List.length_map]; omega) (by decide), ?_⟩
  repeat infer_instance
  refine ⟨⟨hw, _, rfl, by first | decide | omega, by first | decide | omega⟩, fun o ms1 hR => ?_⟩
  clear hw
  obtain ⟨hw, v, top, e, rfl, v0, v1⟩ := hR
  cases e
  refine to_ok ?_
  repeat infer_instance
  have eF : intsD fs ++ [.int r] = intsD (fs ++ [r]) := by unfold intsD; rw [List.map_append] <;> rfl
  rw [eF]
  have hl : ((intsD (fs ++ [r])).length : Int) = m := by rw [List.length_map, List.length_append]; show ((fs.length + 1 : Nat) : Int) = m; omega
  rw [cut_from v0 (by omega), cut_to v0 (by omega)]
  refine add_l2 (Nat.ble_eq_true_of_le (by
    rw [← List.length_append, List.length_append, List.length_drop, List.length_take]
    omega)) ?_
  have eG : (intsD (fs ++ [r])).drop v.toNat ++ (intsD (fs ++ [r])).take v.toNat = intsD ((fs ++ [r]).drop v.toNat ++ (fs ++ [r]).take v.toNat) := by
    generalize fs ++ [r] = gs
    unfold intsD
    rw [List.map_append, List.map_drop, List.map_take]
  rw [eG]
  repeat infer_instance
  refine ⟨hw, m, p, _, rfl, rfl, ?_, fun n hn2 => ?_, ?_⟩
  · rw [List.length_append, List.length_drop, List.length_take]
    rw [List.length_map] at hl
    omega
  · have : n ∈ fs ++ [r] := (List.mem_append.mp hn2).elim (fun h => List.mem_of_mem_drop h) fun h => List.mem_of_mem_take h
    rcases List.mem_append.mp this with h | h
    · exact hn n h
    · rw [List.mem_singleton.mp h]
      exact r0
  · have e := congrArg List.sum (List.take_append_drop v.toNat (fs ++ [r]))
    rw [List.sum_append, List.sum_append] at e
    rw [List.sum_append]
    have e2 : ([r] : List Int).sum = r := by show r + 0 = r; omega
    omega
end
end K70
namespace K70
open PySem PySem.Spec PyProof.Rows L2 Tc Px Py
local macro_rules | `(tactic| fail "x12G10") => `(tactic| first
  | ((with_reducible show G1 _ _ (Stmt.Assign [Expr.Tuple [Expr.Name _ _, Expr.Name _ _] _ _] (Expr.Tuple [Expr.BinOp (Expr.List _ _) Operator.Mult _ _, _] _ _) _) _ _); (with_reducible apply par_on); (with_reducible assumption); (assumption); (eq_refl); (eq_refl); (eq_refl); (eq_refl); (eq_refl); (eq_refl); (eq_refl); (eq_refl); (exact star_cons rfl); (exact star_cons rfl))
  )
local macro_rules | `(tactic| fail "x12G11") => `(tactic| first
  | ((with_reducible show G1 _ _ (Stmt.Assign [Expr.Name "_law_longer" _] (Expr.List [] _) _) _ _); (with_reducible apply set_l); (with_reducible assumption); (eq_refl); (eq_refl); rotate_left; (eq_refl))
  )
local macro_rules | `(tactic| fail "x12G12") => `(tactic| first
  | ((with_reducible show G1 _ _ (Stmt.Assign [Expr.Name "_law_found_here" _] (Expr.List [] _) _) _ _); (with_reducible apply set_l); (with_reducible assumption); (eq_refl); (eq_refl); rotate_left; (eq_refl))
  )
local macro_rules | `(tactic| fail "x12G13") => `(tactic| first
  | ((with_reducible show G1 _ _ (Stmt.Expr (Expr.Call (Expr.Attribute (Expr.Name _ _) "append" _) [_] _ _) _) _ _); (with_reducible apply g1_append); (eq_refl); (eq_refl); (eq_refl); rotate_left; (decide); (decide); (eq_refl); (eq_refl); (eq_refl); (exact star_cons rfl); (eq_refl))
  )
local macro_rules | `(tactic| fail "x12G14") => `(tactic| first
  | ((with_reducible show G1 _ _ (Stmt.Assign [Expr.Tuple [Expr.Name _ _, Expr.Name _ _] _ _] (Expr.Tuple [Expr.List _ _, _] _ _) _) _ _); (with_reducible apply par_on); (with_reducible assumption); (assumption); (eq_refl); (eq_refl); (eq_refl); (eq_refl); (eq_refl); (eq_refl); (eq_refl); (eq_refl); (exact star_cons rfl); (exact star_cons rfl))
  )
local macro_rules | `(tactic| fail "x12G1") => `(tactic| first
  | ((with_reducible show G1 _ _ (Stmt.Assign [Expr.Tuple [Expr.Name _ _, Expr.Name _ _] _ _] (Expr.Tuple [Expr.BinOp (Expr.List _ _) Operator.Mult _ _, _] _ _) _) _ _); fail "x12G10")
  | ((with_reducible show G1 _ _ (Stmt.Assign [Expr.Name "_law_longer" _] (Expr.List [] _) _) _ _); fail "x12G11")
  | ((with_reducible show G1 _ _ (Stmt.Assign [Expr.Name "_law_found_here" _] (Expr.List [] _) _) _ _); fail "x12G12")
  | ((with_reducible show G1 _ _ (Stmt.Expr (Expr.Call (Expr.Attribute (Expr.Name _ _) "append" _) [_] _ _) _) _ _); fail "x12G13")
  | ((with_reducible show G1 _ _ (Stmt.Assign [Expr.Tuple [Expr.Name _ _, Expr.Name _ _] _ _] (Expr.Tuple [Expr.List _ _, _] _ _) _) _ _); fail "x12G14")
  )
local macro_rules | `(tactic| fail "x12GT5") => `(tactic| first
  | ((with_reducible show GT _ _ (Expr.Compare _ [CmpOp.NotEq] [Expr.List [] _] _) _ _); (with_reducible apply gt_neL); (first | with_reducible assumption | exact Bod.toCxt (by with_reducible assumption) | exact Cxt.blk (Bod.toCxt (by with_reducible assumption)) _ _ _ _ _ _ | exact Cxt.blk (Cxt.blk (Bod.toCxt (by with_reducible assumption)) _ _ _ _ _ _) _ _ _ _ _ _))
  )
local macro_rules | `(tactic| infer_instance) => `(tactic| first
  | ((with_reducible show G1 _ _ _ _ _); fail "x12G1")
  | ((with_reducible show GQ _ _ false (Expr.Name _ _) _ _); (with_reducible refine gq_of ?_))
  | ((with_reducible show GT _ _ (Expr.Compare _ [CmpOp.NotEq] [Expr.List [] _] _) _ _); fail "x12GT5")
  | ((with_reducible show ∃ d1 d2 d3, _ = [d1, d2, d3] ∧ _); refine ⟨_, _, _, rfl, rfl, rfl, rfl, ?_⟩)
  | ((with_reducible show ∀ B0 : Bas, GE B0 _ _ _ _); intro _)
  | ((with_reducible show ∃ ds0, _ = (if false = true then PyData.list ds0 else PyData.tuple ds0) ∧ _); refine ⟨_, rfl, ?_⟩)
  )
section
variable {P : Program} {w : World} {K : PySem.W.Frag} {mg : Str → Option Value} {base : Heap}
theorem sc_ltried : FnScope ["_law_many", "_law_people", "_law_found_here", "_law_turn", "_law_longer", "_law_own", "_law_one"] ["_law_many", "_law_people"] (defScope s_ltried) := ⟨rfl, rfl, rfl, by decide +kernel, rfl, by decide +kernel, by decide +kernel⟩
def tupD (l : List Int) : PyData := .tuple (l.map .int)
def exp1 (n : Int) (l : List Int) : List (List Int) := (List.range (n - l.sum + 1).toNat).map fun k : Nat => l ++ [(k : Int)]
def rw1 (n : Int) : Nat → List (List Int)
  | 0 => [[]]
  | t + 1 => (rw1 n t).flatMap (exp1 n)
theorem tupD_sum {l : List Int} {k : PyData → Prop} (h : k (.int l.sum)) : SumD (tupD l) k := by
  refine sum_tup ?_ ?_
  · rw [List.all_map]
    exact List.all_eq_true.mpr fun _ _ => rfl
  · rw [List.map_map, show (asI ∘ PyData.int) = id from rfl, List.map_id]
    exact h
theorem exp_take {n : Int} {l : List Int} {j : Nat} (h : j < (n - l.sum + 1).toNat) : (exp1 n l).take (j + 1) = (exp1 n l).take j ++ [l ++ [(j : Int)]] := by
  unfold exp1
  rw [← List.map_take, ← List.map_take, List.take_range, List.take_range, Nat.min_eq_left (by omega), Nat.min_eq_left (by omega), List.range_succ, List.map_append] <;> rfl
structure Row (n : Int) (t : Nat) (l : List Int) : Prop where
  nn : ∀ x ∈ l, 0 ≤ x
  sm : l.sum ≤ n
  len : l.length = t
theorem exp_row {n : Int} {t : Nat} {l m : List Int} (h : Row n t l) (hm : m ∈ exp1 n l) : Row n (t + 1) m := by
  obtain ⟨k, hk, rfl⟩ := List.mem_map.mp hm
  have hk := List.mem_range.mp hk
  have := h.sm
  refine ⟨fun x hx => ?_, ?_, by rw [List.length_append, h.len] <;> rfl⟩
  · rcases List.mem_append.mp hx with hx | hx
    · exact h.nn x hx
    · rw [List.mem_singleton.mp hx]
      omega
  · rw [List.sum_append]
    show l.sum + (k + 0) ≤ n
    omega
theorem rw_row {n : Int} (h0 : 0 ≤ n) : ∀ t, ∀ l ∈ rw1 n t, Row n t l
  | 0, l, h => by
    rw [List.mem_singleton.mp h]
    exact ⟨fun _ h => (nomatch h), h0, rfl⟩
  | t + 1, l, h => by
    obtain ⟨m, hm, hl⟩ := List.mem_flatMap.mp h
    exact exp_row (rw_row h0 t m hm) hl
theorem row_sum {n : Int} {t : Nat} {l : List Int} (h : Row n t l) : 0 ≤ l.sum := by
  have q := h.nn
  clear h
  induction l with
  | nil => exact Int.le_refl 0
  | cons x l ih =>
    rw [List.sum_cons]
    have := ih fun y hy => q y (.tail _ hy)
    have := q x (.head _)
    omega
theorem exp_len {n : Int} {t : Nat} {l : List Int} (h : Row n t l) : (exp1 n l).length ≤ n.toNat + 1 := by
  have h0 := row_sum h
  unfold exp1
  rw [List.length_map, List.length_range]
  omega
theorem flat_len {α β : Type} {f : α → List β} {k : Nat} : ∀ {l : List α}, (∀ x ∈ l, (f x).length ≤ k) → (l.flatMap f).length ≤ l.length * k
  | [], _ => by simp
  | x :: l, h => by
    rw [List.flatMap_cons, List.length_append, List.length_cons]
    have := flat_len (l := l) fun y hy => h y (.tail _ hy)
    have := h x (.head _)
    rw [Nat.add_mul]
    omega
theorem rw_len {n : Int} (h0 : 0 ≤ n) : ∀ t, (rw1 n t).length ≤ (n.toNat + 1) ^ t
  | 0 => Nat.le_refl 1
  | t + 1 => by
    have := rw_len h0 t
    have q := flat_len (f := exp1 n) (l := rw1 n t) (k := n.toNat + 1) fun x hx => exp_len (rw_row h0 t x hx)
    show ((rw1 n t).flatMap (exp1 n)).length ≤ (n.toNat + 1) ^ (t + 1)
    rw [Nat.pow_succ]
    exact Nat.le_trans q (Nat.mul_le_mul_right _ this)
theorem nth_map {α : Type} {f : α → PyData} {l : List α} {i : Nat} (h : i < l.length) : nth (l.map f) i = f l[i] := by
  rw [nth_at (List.getElem?_eq_getElem (by rw [List.length_map]; exact h)), List.getElem_map]
theorem tupD_snoc (l : List Int) (j : Int) : tupD (l ++ [j]) = .tuple (l.map .int ++ [.int j]) := by
  unfold tupD
  rw [List.map_append] <;> rfl
/-- so many people at most, for so many shares -/
def few (m p : Int) : Prop := 1 ≤ p ∧ ((m = 2 ∧ p ≤ 300) ∨ (m = 3 ∧ p ≤ 12) ∨ (m = 4 ∧ p ≤ 7) ∨ (m = 5 ∧ p ≤ 5) ∨ (m = 6 ∧ p ≤ 4))
theorem few_len {m p : Int} (h : few m p) {t : Nat} (ht : (t : Int) ≤ m - 1) : (rw1 p t).length ≤ 3125 ∧ (rw1 p t).length * (p.toNat + 1) ≤ 100000 := by
  obtain ⟨p0, h⟩ := h
  have q := rw_len (n := p) (by omega) t
  have le : ∀ (M P T : Nat), p.toNat + 1 ≤ P → t ≤ T → (rw1 p t).length ≤ P ^ T := fun M P T h1 h2 => Nat.le_trans q (Nat.le_trans (Nat.pow_le_pow_left h1 t) (Nat.pow_le_pow_right (by omega) h2))
  rcases h with ⟨rfl, hp⟩ | ⟨rfl, hp⟩ | ⟨rfl, hp⟩ | ⟨rfl, hp⟩ | ⟨rfl, hp⟩
  · have := le 2 301 1 (by omega) (by omega)
    have e : (301 : Nat) ^ 1 = 301 := rfl
    exact ⟨by omega, Nat.le_trans (Nat.mul_le_mul (show _ ≤ 301 by omega) (show p.toNat + 1 ≤ 301 by omega)) (by decide)⟩
  · have := le 3 13 2 (by omega) (by omega)
    have e : (13 : Nat) ^ 2 = 169 := rfl
    exact ⟨by omega, Nat.le_trans (Nat.mul_le_mul (show _ ≤ 169 by omega) (show p.toNat + 1 ≤ 13 by omega)) (by decide)⟩
  · have := le 4 8 3 (by omega) (by omega)
    have e : (8 : Nat) ^ 3 = 512 := rfl
    exact ⟨by omega, Nat.le_trans (Nat.mul_le_mul (show _ ≤ 512 by omega) (show p.toNat + 1 ≤ 8 by omega)) (by decide)⟩
  · have := le 5 6 4 (by omega) (by omega)
    have e : (6 : Nat) ^ 4 = 1296 := rfl
    exact ⟨by omega, Nat.le_trans (Nat.mul_le_mul (show _ ≤ 1296 by omega) (show p.toNat + 1 ≤ 6 by omega)) (by decide)⟩
  · have := le 6 5 5 (by omega) (by omega)
    have e : (5 : Nat) ^ 5 = 3125 := rfl
    exact ⟨by omega, Nat.le_trans (Nat.mul_le_mul (show _ ≤ 3125 by omega) (show p.toNat + 1 ≤ 5 by omega)) (by decide)⟩
def preTr (ds : List PyData) : Prop := ∃ m p : Int, ds = [.int m, .int p] ∧ few m p
/-- all tuples of so many integers from 0 on with this sum -/
def wh (p : Int) (l : List Int) : List Int := l ++ [p - l.sum]
def allT (m : Nat) (p : Int) : List (List Int) := (rw1 p (m - 1)).map (wh p)
def trD : List PyData → PyData
  | [.int m, .int p] => .list ((allT m.toNat p).map tupD)
  | _ => .none
theorem ok_tried {f : Addr} {fd : FuncData} (F : Fun K "_law_tried" "_law_tried" s_ltried f fd) (sm : ∃ o, K.lookup sysModules = some o) (B : Gls mg) :
    FnG P w K mg base (L2.CX P w) 1 f fd ["_law_many", "_law_people"] (spF 2 preTr fun ds => .ok (trD ds)) := by
  refine fn_data F sc_ltried sm (by decide) _ _ fun cdv A outer s H E Bs ds hl hp c ex => ?_
  obtain ⟨m, p, rfl, hf⟩ := hp
  have p0 : 1 ≤ p := hf.1
  have m2 : 2 ≤ m ∧ m ≤ 6 ∧ p ≤ 300 := by have := hf.2; omega
  have nd := sc_ltried.nd
  refine gs_cons ?_
  repeat infer_instance
  refine ⟨by omega, by omega, fun t Γ => ∃ (s3 s4 s5 s6 : Sl), Γ = [.d (.int m), .d (.int p), .d (.list ((rw1 p t).map tupD)), s3, s4, s5, s6], ⟨_, _, _, _, rfl⟩, fun _ _ _ _ => trivial, ?_, ?_⟩
  · rintro t Γ ht ⟨s3, s4, s5, s6, rfl⟩
    have ht : (t : Int) < m - 1 := by omega
    repeat infer_instance
    have hR := rw_row (n := p) (by omega) t
    obtain ⟨hL, hL2⟩ := few_len hf (t := t) (by omega)
    refine ⟨fun i Γ => ∃ (a2 : Addr) (s5 s6 : Sl), Γ = [.d (.int m), .d (.int p), .d (.list ((rw1 p t).map tupD)), .d (.int (0 + (t : Int))), .own a2 ((((rw1 p t).take i).flatMap (exp1 p)).map tupD), s5, s6], ⟨_, _, _, rfl⟩, fun _ _ _ _ => trivial, ?_, ?_⟩
    · rintro i Γ hi ⟨a2, s5, s6, rfl⟩
      have hi : i < (rw1 p t).length := by rw [List.length_map] at hi; exact hi
      rw [nth_map hi]
      have hl := hR _ (List.getElem_mem hi)
      have ht1 : (rw1 p t).take (i + 1) = (rw1 p t).take i ++ [(rw1 p t)[i]] := List.take_succ_eq_append_getElem hi
      have hfin : ((rw1 p t).take (i + 1)).flatMap (exp1 p) = ((rw1 p t).take i).flatMap (exp1 p) ++ exp1 p (rw1 p t)[i] := by
        rw [ht1, List.flatMap_append, List.flatMap_cons, List.flatMap_nil, List.append_nil]
      have hF : (((rw1 p t).take i).flatMap (exp1 p)).length ≤ 100000 := Nat.le_trans (flat_len (k := p.toNat + 1) fun x hx => exp_len (hR x (List.mem_of_mem_take hx))) (Nat.le_trans (Nat.mul_le_mul_right _ (by rw [List.length_take]; omega)) hL2)
      generalize ((rw1 p t).take i).flatMap (exp1 p) = pre at hF hfin ⊢
      generalize (rw1 p t)[i] = l at hl hfin ⊢
      repeat infer_instance
      refine tupD_sum ?_
      have hs0 : 0 ≤ l.sum := row_sum hl
      have hs1 := hl.sm
      repeat infer_instance
      refine ⟨by omega, by omega, fun j Γ => ∃ (s6 : Sl), Γ = [.d (.int m), .d (.int p), .d (.list ((rw1 p t).map tupD)), .d (.int (0 + (t : Int))), .own a2 ((pre ++ (exp1 p l).take j).map tupD), .d (tupD l), s6], ⟨_, by rw [List.take_zero, List.append_nil] <;> rfl⟩, fun _ _ _ _ => trivial, ?_, ?_⟩
      · rintro j Γ hj ⟨s6, rfl⟩
        have hj : j < (p - l.sum + 1).toNat := hj
        have hj7 : ((exp1 p l).take j).length ≤ 400 := Nat.le_trans (by rw [List.length_take]; exact Nat.min_le_right _ _) (Nat.le_trans (exp_len hl) (by omega))
        have hex : (exp1 p l).take (j + 1) = (exp1 p l).take j ++ [l ++ [(j : Int)]] := exp_take hj
        generalize (exp1 p l).take j = mid at hj7 hex ⊢
        show GG _ _ _ (.int (0 + j)) _ _
        rw [Int.zero_add]
        repeat infer_instance
        show AddD (.tuple (l.map .int)) (.tuple [.int j]) _
        refine add_t2 (Nat.ble_eq_true_of_le (by rw [List.length_map, hl.len]; show t + 1 ≤ 1000; omega)) ?_
        refine ⟨_, rfl, Nat.lt_of_lt_of_le (by rw [List.length_map, List.length_append]; omega : _ < 200000) (by decide), ?_⟩
        repeat (with_reducible refine gs_nil ?_)
        refine ⟨.d (.int j), ?_⟩
        rw [hex, ← List.append_assoc, List.map_append (l₁ := pre ++ mid), List.map_cons, List.map_nil, tupD_snoc] <;> rfl
      · rintro Γ ⟨s6, rfl⟩
        repeat (with_reducible refine gs_nil ?_)
        refine ⟨a2, .d (tupD l), s6, ?_⟩
        rw [hfin, List.take_of_length_le (by unfold exp1; rw [List.length_map, List.length_range]; exact Nat.le_refl _)]
    rintro Γ ⟨a2, s5, s6, rfl⟩
    have hall : ((rw1 p t).take ((rw1 p t).map tupD).length).flatMap (exp1 p) = rw1 p (t + 1) := by rw [List.length_map, List.take_length] <;> rfl
    rw [hall]
    show Gs _ _ _ _ _
    refine gs_cons ?_
    repeat infer_instance
    repeat (with_reducible refine gs_nil ?_)
    exact ⟨_, _, _, _, rfl⟩
  rintro Γ ⟨s3, s4, s5, s6, rfl⟩
  have eT : (m - 1).toNat = m.toNat - 1 := by omega
  show Gs _ _ _ _ _
  refine gs_cons ?_
  repeat infer_instance
  rw [eT]
  have hR := rw_row (n := p) (by omega) (m.toNat - 1)
  obtain ⟨hL, _⟩ := few_len hf (t := m.toNat - 1) (by omega)
  have e0 : trD [.int m, .int p] = .list (((rw1 p (m.toNat - 1)).map (wh p)).map tupD) := rfl
  rw [e0]
  clear e0
  generalize rw1 p (m.toNat - 1) = R at hR hL ⊢
  ((with_reducible apply gf_lk); (eq_refl); (assumption); (eq_refl); (eq_refl); (eq_refl); (intro _; eq_refl))
  repeat infer_instance
  refine ⟨Nat.le_trans (show (R.map tupD).length ≤ 3125 by rw [List.length_map]; exact hL) (by decide), fun _ => true, fun i => tupD (wh p (R.getD i [])), fun i hi B' => ?_, ?_⟩
  · have hi : i < R.length := by rw [List.length_map] at hi; exact hi
    have hl := hR _ (List.getElem_mem hi)
    have eG : R.getD i [] = R[i] := by rw [List.getD_eq_getElem?_getD, List.getElem?_eq_getElem hi] <;> rfl
    rw [nth_map hi]
    generalize R[i] = l at hl eG ⊢
    repeat infer_instance
    refine tupD_sum ?_
    repeat infer_instance
    show AddD (.tuple (l.map .int)) (.tuple [.int (p - l.sum)]) _
    refine add_t2 (Nat.ble_eq_true_of_le (by rw [List.length_map, hl.len]; show m.toNat - 1 + 1 ≤ 1000; omega)) ?_
    exact ⟨by show PyData.tuple (l.map .int ++ [.int (p - l.sum)]) = tupD (wh p (R.getD i [])); rw [eG]; exact (tupD_snoc l _).symm, rfl⟩
  have eL : ((List.range (R.map tupD).length).filter fun _ => true).map (fun i => tupD (wh p (R.getD i []))) = (R.map (wh p)).map tupD := by
    rw [List.filter_eq_self.mpr fun _ _ => rfl]
    refine List.ext_getElem (by rw [List.length_map, List.length_range, List.length_map, List.length_map, List.length_map]) fun i h1 h2 => ?_
    have hi : i < R.length := by rw [List.length_map, List.length_map] at h2; exact h2
    rw [List.getElem_map, List.getElem_range, List.getElem_map, List.getElem_map, List.getD_eq_getElem?_getD, List.getElem?_eq_getElem hi] <;> rfl
  rw [eL]
  repeat infer_instance
  all_goals exact rfl
end
end K70
namespace K70
open PySem PySem.Spec PyProof.Rows L2 Tc Px Py
/-! numbers: what is tried is what is told -/
theorem ceil_le {x d k : Int} (hd : 0 < d) : (x + d - 1) / d ≤ k ↔ x ≤ d * k := by
  have h := Int.ediv_lt_iff_lt_mul (a := x + d - 1) (b := k + 1) hd
  have e : (k + 1) * d = d * k + d := by rw [Int.add_mul, Int.one_mul, Int.mul_comm]
  rw [e] at h
  omega
theorem near_iff {u k p s : Int} (hu : 0 < u) (hp : 0 < p) (h0 : 0 ≤ k) (h1 : k ≤ p) : nearI (u * k) p = s ↔ loI s p u ≤ k ∧ k ≤ hiI s p u := by
  have a1 : nearI (u * k) p = s ↔ (2 * s - 1) * p ≤ 2 * u * k ∧ 2 * u * k < (2 * s + 1) * p := by
    unfold nearI
    have h2 := Int.le_ediv_iff_mul_le (a := s) (b := 2 * (u * k) + p) (c := 2 * p) (by omega)
    have h3 := Int.ediv_lt_iff_lt_mul (a := 2 * (u * k) + p) (b := s + 1) (c := 2 * p) (by omega)
    have e1 : s * (2 * p) = 2 * (s * p) := by rw [Int.mul_left_comm]
    have e2 : (s + 1) * (2 * p) = 2 * (s * p) + 2 * p := by rw [Int.add_mul, Int.one_mul, Int.mul_left_comm]
    have e3 : (2 * s - 1) * p = 2 * (s * p) - p := by rw [Int.sub_mul, Int.one_mul, Int.mul_assoc]
    have e4 : (2 * s + 1) * p = 2 * (s * p) + p := by rw [Int.add_mul, Int.one_mul, Int.mul_assoc]
    have e5 : 2 * u * k = 2 * (u * k) := Int.mul_assoc _ _ _
    rw [e1] at h2
    rw [e2] at h3
    rw [e3, e4, e5]
    omega
  rw [a1]
  have c1 := ceil_le (x := (2 * s - 1) * p) (d := 2 * u) (k := k) (by omega)
  have c2 := ceil_le (x := (2 * s + 1) * p) (d := 2 * u) (k := k) (by omega)
  unfold loI hiI
  generalize ((2 * s - 1) * p + 2 * u - 1) / (2 * u) = A at c1 ⊢
  generalize ((2 * s + 1) * p + 2 * u - 1) / (2 * u) = Bv at c2 ⊢
  generalize (2 * s - 1) * p = x1 at c1 ⊢
  generalize (2 * s + 1) * p = x2 at c2 ⊢
  generalize 2 * u * k = z at c1 c2 ⊢
  show _ ↔ (if A < 0 then 0 else A) ≤ k ∧ k ≤ (if p < Bv - 1 then p else Bv - 1)
  split <;> split <;> omega
/-- one after another -/
def lexlt : List Int → List Int → Prop
  | a :: l, b :: r => a < b ∨ (a = b ∧ lexlt l r)
  | _, _ => False
theorem lex_irr : ∀ l : List Int, ¬ lexlt l l
  | [], h => h
  | a :: l, h => h.elim (fun h => by omega) fun h => lex_irr l h.2
theorem lex_asym : ∀ l r : List Int, lexlt l r → lexlt r l → False
  | [], _, h, _ => h
  | _ :: _, [], h, _ => h
  | a :: l, b :: r, h1, h2 => by
    rcases h1 with h1 | ⟨rfl, h1⟩
    · rcases h2 with h2 | ⟨rfl, _⟩
      · omega
      · omega
    · rcases h2 with h2 | ⟨_, h2⟩
      · omega
      · exact lex_asym l r h1 h2
theorem lex_app : ∀ {l r : List Int} (x y : List Int), lexlt l r → l.length = r.length → lexlt (l ++ x) (r ++ y)
  | [], _, _, _, h, _ => h.elim
  | _ :: _, [], _, _, h, _ => h.elim
  | a :: l, b :: r, x, y, h, e => h.elim .inl fun h => .inr ⟨h.1, lex_app x y h.2 (Nat.succ.inj e)⟩
theorem lex_snoc : ∀ (l : List Int) {i j : Int}, i < j → lexlt (l ++ [i]) (l ++ [j])
  | [], _, _, h => .inl h
  | _ :: l, _, _, h => .inr ⟨rfl, lex_snoc l h⟩
theorem rw_pair {p : Int} (h0 : 0 ≤ p) : ∀ t, (rw1 p t).Pairwise lexlt
  | 0 => List.pairwise_singleton _ _
  | t + 1 => by
    show ((rw1 p t).flatMap (exp1 p)).Pairwise lexlt
    rw [List.pairwise_flatMap]
    refine ⟨fun l hl => ?_, ?_⟩
    · unfold exp1
      rw [List.pairwise_map]
      refine List.Pairwise.imp (R := fun a b : Nat => a < b) (fun {a b} h => lex_snoc l (by omega)) ?_
      exact List.pairwise_lt_range
    · refine List.Pairwise.imp_of_mem (fun {l r} hl hr h x hx y hy => ?_) (rw_pair h0 t)
      obtain ⟨i, _, rfl⟩ := List.mem_map.mp hx
      obtain ⟨j, _, rfl⟩ := List.mem_map.mp hy
      exact lex_app _ _ h ((rw_row h0 t l hl).len.trans (rw_row h0 t r hr).len.symm)
theorem all_pair {p : Int} (h0 : 0 ≤ p) (m : Nat) : (allT m p).Pairwise lexlt := by
  unfold allT
  rw [List.pairwise_map]
  refine List.Pairwise.imp_of_mem (fun {l r} hl hr h => ?_) (rw_pair h0 (m - 1))
  exact lex_app _ _ h ((rw_row h0 _ l hl).len.trans (rw_row h0 _ r hr).len.symm)
theorem head_fil {P : List Int → Bool} {x : List Int} : ∀ {A : List (List Int)}, A.Pairwise lexlt → x ∈ A → P x = true → (∀ y ∈ A, P y = true → y = x ∨ lexlt x y) → (A.filter P).head? = some x
  | [], _, h, _, _ => nomatch h
  | a :: A, hp, hx, px, hm => by
    obtain ⟨h1, h2⟩ := List.pairwise_cons.mp hp
    rw [List.filter_cons]
    by_cases pa : P a = true
    · rw [if_pos pa]
      rcases hm a (.head _) pa with rfl | h
      · rfl
      · rcases List.mem_cons.mp hx with rfl | hx
        · exact absurd h (lex_irr _)
        · exact (lex_asym _ _ h (h1 x hx)).elim
    · rw [if_neg pa]
      have hx : x ∈ A := by
        rcases List.mem_cons.mp hx with rfl | hx
        · exact absurd px pa
        · exact hx
      exact head_fil h2 hx px fun y hy => hm y (.tail _ hy)
theorem mem_rw {p : Int} : ∀ (t : Nat) (l : List Int), l.length = t → (∀ n ∈ l, 0 ≤ n) → l.sum ≤ p → l ∈ rw1 p t
  | 0, l, h, _, _ => by
    rw [List.eq_nil_of_length_eq_zero h]
    exact .head _
  | t + 1, l, h, hn, hs => by
    have hne : l ≠ [] := fun e => by rw [e] at h; cases h
    have e := List.dropLast_concat_getLast hne
    have h1 : 0 ≤ l.getLast hne := hn _ (List.getLast_mem hne)
    have s1 : l.dropLast.sum + l.getLast hne = l.sum := by
      have := congrArg List.sum e
      rw [List.sum_append] at this
      have e2 : ([l.getLast hne] : List Int).sum = l.getLast hne := by show l.getLast hne + 0 = _; omega
      omega
    refine List.mem_flatMap.mpr ⟨l.dropLast, mem_rw t l.dropLast (by rw [List.length_dropLast, h]; rfl) (fun n hm => hn n ((List.dropLast_sublist l).subset hm)) (by omega), ?_⟩
    refine List.mem_map.mpr ⟨(l.getLast hne).toNat, List.mem_range.mpr (by omega), ?_⟩
    rw [show (((l.getLast hne).toNat : Nat) : Int) = l.getLast hne by omega]
    exact e
theorem mem_all {p : Int} {m : Nat} {l : List Int} (h0 : 0 ≤ p) (hm : 0 < m) : l ∈ allT m p ↔ l.length = m ∧ (∀ n ∈ l, 0 ≤ n) ∧ l.sum = p := by
  unfold allT
  constructor
  · intro h
    obtain ⟨r, hr, rfl⟩ := List.mem_map.mp h
    obtain ⟨r1, r2, r3⟩ := rw_row h0 _ r hr
    unfold wh
    refine ⟨by rw [List.length_append, r3]; show m - 1 + 1 = m; omega, fun n hn => ?_, by rw [List.sum_append]; show r.sum + (p - r.sum + 0) = p; omega⟩
    rcases List.mem_append.mp hn with h | h
    · exact r1 n h
    · rw [List.mem_singleton.mp h]
      omega
  · rintro ⟨h, hn, hs⟩
    have hne : l ≠ [] := fun e => by rw [e] at h; exact absurd h (by show ¬ 0 = m; omega)
    have e := List.dropLast_concat_getLast hne
    have h1 : 0 ≤ l.getLast hne := hn _ (List.getLast_mem hne)
    have s1 : l.dropLast.sum + l.getLast hne = l.sum := by
      have := congrArg List.sum e
      rw [List.sum_append] at this
      have e2 : ([l.getLast hne] : List Int).sum = l.getLast hne := by show l.getLast hne + 0 = _; omega
      omega
    refine List.mem_map.mpr ⟨l.dropLast, mem_rw _ _ (by rw [List.length_dropLast, h]) (fun n hm => hn n ((List.dropLast_sublist l).subset hm)) (by omega), ?_⟩
    unfold wh
    rw [show p - l.dropLast.sum = l.getLast hne by omega]
    exact e
/-- each in its stretch -/
inductive Box : List Int → List (Int × Int) → Prop
  | nil : Box [] []
  | cons {a : Int} {x : Int × Int} {l : List Int} {L : List (Int × Int)} : x.1 ≤ a → a ≤ x.2 → Box l L → Box (a :: l) (x :: L)
theorem Box.sum {l : List Int} {L : List (Int × Int)} (h : Box l L) : loS L ≤ l.sum ∧ l.sum ≤ hiS L ∧ l.length = L.length := by
  induction h with
  | nil => exact ⟨Int.le_refl _, Int.le_refl _, rfl⟩
  | @cons a x l L h1 h2 _ ih =>
    obtain ⟨i1, i2, i3⟩ := ih
    have e1 : loS (x :: L) = x.1 + loS L := rfl
    have e2 : hiS (x :: L) = x.2 + hiS L := rfl
    rw [List.sum_cons, e1, e2, List.length_cons, List.length_cons]
    omega
theorem none_cons {x : Int × Int} {L : List (Int × Int)} : noneB (x :: L) = false ↔ x.1 ≤ x.2 ∧ noneB L = false := by
  unfold noneB
  rw [List.any_cons, Bool.or_eq_false_iff, decide_eq_false_iff_not]
  constructor <;> rintro ⟨h1, h2⟩ <;> exact ⟨by omega, h2⟩
theorem Box.some {l : List Int} {L : List (Int × Int)} (h : Box l L) : noneB L = false := by
  induction h with
  | nil => rfl
  | cons h1 h2 _ ih => exact none_cons.mpr ⟨by omega, ih⟩
def wd (L : List (Int × Int)) : Int := hiS L - loS L
theorem wd_cons {x : Int × Int} {L : List (Int × Int)} : wd (x :: L) = (x.2 - x.1) + wd L := by
  show x.2 + hiS L - (x.1 + loS L) = x.2 - x.1 + (hiS L - loS L)
  omega
theorem wd_nn : ∀ {L : List (Int × Int)}, noneB L = false → 0 ≤ wd L
  | [], _ => by show (0 : Int) ≤ 0 - 0; omega
  | x :: L, h => by
    obtain ⟨h1, h2⟩ := none_cons.mp h
    have := wd_nn h2
    rw [wd_cons]
    omega
/-- what is left behind some -/
theorem fl_app : ∀ (A : List (Int × Int)) (x : Int × Int) (e : Int), 0 ≤ e → noneB A = false → fl e (A ++ [x]) = fl e A ++ [x.1 + mn (if e < wd A then 0 else e - wd A) (x.2 - x.1)]
  | [], x, e, h0, _ => by
    show [x.1 + mn e (x.2 - x.1)] = [x.1 + mn (if e < 0 - 0 then 0 else e - (0 - 0)) (x.2 - x.1)]
    rw [if_neg (by omega), show e - (0 - 0) = e by omega]
  | y :: A, x, e, h0, h => by
    obtain ⟨h1, h2⟩ := none_cons.mp h
    have hw := wd_nn h2
    have hm : mn e (y.2 - y.1) = (if y.2 - y.1 < e then y.2 - y.1 else e) := rfl
    show (y.1 + mn e (y.2 - y.1)) :: fl (e - mn e (y.2 - y.1)) (A ++ [x]) = (y.1 + mn e (y.2 - y.1)) :: (fl (e - mn e (y.2 - y.1)) A ++ _)
    have eq : (if e - mn e (y.2 - y.1) < wd A then 0 else e - mn e (y.2 - y.1) - wd A) = (if e < y.2 - y.1 + wd A then 0 else e - (y.2 - y.1 + wd A)) := by
      rw [hm]
      split <;> split <;> split <;> omega
    rw [fl_app A x _ (by rw [hm]; split <;> omega) h2, wd_cons, eq]
theorem fl_full : ∀ (A : List (Int × Int)) (e : Int), noneB A = false → wd A ≤ e → fl e A = A.map fun x => x.2
  | [], _, _, _ => rfl
  | y :: A, e, h, he => by
    obtain ⟨h1, h2⟩ := none_cons.mp h
    have hw := wd_nn h2
    rw [wd_cons] at he
    have hm : mn e (y.2 - y.1) = y.2 - y.1 := by unfold mn; split <;> omega
    show (y.1 + mn e (y.2 - y.1)) :: fl (e - mn e (y.2 - y.1)) A = y.2 :: A.map fun x => x.2
    rw [hm, fl_full A _ h2 (by omega), show y.1 + (y.2 - y.1) = y.2 by omega]
theorem none_rev {L : List (Int × Int)} (h : noneB L = false) : noneB L.reverse = false := by
  unfold noneB at *
  rw [List.any_reverse]
  exact h
theorem sum_rev (l : List Int) : l.reverse.sum = l.sum := by
  induction l with
  | nil => rfl
  | cons a l ih =>
    rw [List.reverse_cons, List.sum_append, ih]
    show l.sum + (a + 0) = a + l.sum
    omega
theorem wd_rev (L : List (Int × Int)) : wd L.reverse = wd L := by
  unfold wd hiS loS
  rw [List.map_reverse, List.map_reverse, sum_rev, sum_rev]
def fR (e : Int) (L : List (Int × Int)) : List Int := (fl e L.reverse).reverse
theorem fR_cons {e : Int} {x : Int × Int} {L : List (Int × Int)} (h0 : 0 ≤ e) (h : noneB L = false) : fR e (x :: L) = (x.1 + mn (if e < wd L then 0 else e - wd L) (x.2 - x.1)) :: fR e L := by
  unfold fR
  rw [List.reverse_cons, fl_app _ _ _ h0 (none_rev h), List.reverse_append, wd_rev] <;> rfl
theorem fR_full {e : Int} {L : List (Int × Int)} (h : noneB L = false) (he : wd L ≤ e) : fR e L = L.map fun x => x.2 := by
  unfold fR
  rw [fl_full _ _ (none_rev h) (by rw [wd_rev]; exact he), List.map_reverse, List.reverse_reverse]
/-- the first ones stand in their stretches, with the due sum -/
theorem fR_box : ∀ {L : List (Int × Int)} {e : Int}, noneB L = false → 0 ≤ e → e ≤ wd L → Box (fR e L) L ∧ (fR e L).sum = loS L + e
  | [], e, _, h0, h1 => by
    have : e = 0 := by
      have : e ≤ 0 - 0 := h1
      omega
    subst this
    exact ⟨.nil, rfl⟩
  | x :: L, e, h, h0, h1 => by
    obtain ⟨hx, h2⟩ := none_cons.mp h
    have hw := wd_nn h2
    rw [wd_cons] at h1
    rw [fR_cons h0 h2]
    have e1 : loS (x :: L) = x.1 + loS L := rfl
    by_cases hc : e < wd L
    · rw [if_pos hc]
      have hm : mn 0 (x.2 - x.1) = 0 := by unfold mn; split <;> omega
      obtain ⟨b, s⟩ := fR_box h2 h0 (Int.le_of_lt hc)
      rw [hm]
      refine ⟨.cons (by omega) (by omega) b, ?_⟩
      rw [List.sum_cons, s, e1]
      omega
    · rw [if_neg hc]
      have hm : mn (e - wd L) (x.2 - x.1) = e - wd L := by unfold mn; split <;> omega
      have eq : fR e L = fR (wd L) L := by rw [fR_full h2 (by omega), fR_full h2 (Int.le_refl _)]
      obtain ⟨b, s⟩ := fR_box h2 hw (Int.le_refl _)
      rw [hm, eq]
      refine ⟨.cons (by omega) (by omega) b, ?_⟩
      rw [List.sum_cons, s, e1]
      omega
theorem fR_least : ∀ {L : List (Int × Int)} {e : Int} {y : List Int}, 0 ≤ e → Box y L → y.sum = loS L + e → y = fR e L ∨ lexlt (fR e L) y
  | [], e, y, h0, hb, hs => by
    cases hb
    exact .inl rfl
  | x :: L, e, y, h0, hb, hs => by
    cases hb with
    | @cons a _ y _ h1 h2 hb =>
    have hN := hb.some
    obtain ⟨b1, b2, b3⟩ := hb.sum
    have hw := wd_nn hN
    have e1 : loS (x :: L) = x.1 + loS L := rfl
    have ew : wd L = hiS L - loS L := rfl
    rw [List.sum_cons, e1] at hs
    rw [fR_cons h0 hN]
    by_cases hc : e < wd L
    · rw [if_pos hc]
      have hm : mn 0 (x.2 - x.1) = 0 := by unfold mn; split <;> omega
      rw [hm]
      by_cases ha : a = x.1
      · subst ha
        rcases fR_least (e := e) h0 hb (by omega) with r | r
        · exact .inl (by rw [← r, Int.add_zero])
        · exact .inr (.inr ⟨Int.add_zero _, r⟩)
      · exact .inr (.inl (by omega))
    · rw [if_neg hc]
      have hm : mn (e - wd L) (x.2 - x.1) = e - wd L := by unfold mn; split <;> omega
      rw [hm]
      by_cases ha : a = x.1 + (e - wd L)
      · have eq : fR e L = fR (wd L) L := by rw [fR_full hN (by omega), fR_full hN (Int.le_refl _)]
        rcases fR_least (e := wd L) hw hb (by omega) with r | r
        · exact .inl (by rw [← ha, eq, ← r])
        · exact .inr (.inr ⟨ha.symm, by rw [eq]; exact r⟩)
      · exact .inr (.inl (by omega))
def dueL (u : Int) (ns : List Int) (p : Int) : List (List Int) := (allT ns.length p).filter fun l => decide (soL u l = ns)
theorem so_box {u p : Int} (hu : 0 < u) (hp : 0 < p) : ∀ {ns l : List Int}, (∀ n ∈ l, 0 ≤ n ∧ n ≤ p) → ((l.map fun n => nearI (u * n) p) = ns ↔ Box l (stL p u ns))
  | [], [], _ => ⟨fun _ => .nil, fun _ => rfl⟩
  | [], _ :: _, _ => ⟨fun h => (nomatch h), fun h => (nomatch h)⟩
  | _ :: _, [], _ => ⟨fun h => (nomatch h), fun h => (nomatch h)⟩
  | n :: ns, k :: l, h => by
    have hk := h k (.head _)
    have ih := so_box hu hp (ns := ns) (l := l) fun n hn => h n (.tail _ hn)
    have hi := near_iff (s := n) hu hp hk.1 hk.2
    rw [List.map_cons]
    constructor
    · intro e
      obtain ⟨e1, e2⟩ := List.cons.inj e
      obtain ⟨q1, q2⟩ := hi.mp e1
      exact .cons q1 q2 (ih.mp e2)
    · intro b
      cases b with
      | cons q1 q2 b => rw [hi.mpr ⟨q1, q2⟩, ih.mpr b]
theorem due_iff {u p : Int} {ns l : List Int} (hu : 0 < u) (hp : 0 < p) (hl : ∀ n ∈ l, 0 ≤ n) (hs : l.sum = p) : soL u l = ns ↔ Box l (stL p u ns) := by
  unfold soL
  rw [hs]
  exact so_box hu hp fun n hn => ⟨hl n hn, by rw [← hs]; exact (sum_ge hl).2 n hn⟩
theorem lo_nn {p u : Int} {ns l : List Int} (h : Box l (stL p u ns)) : ∀ n ∈ l, 0 ≤ n := by
  generalize hL : stL p u ns = L at h
  induction h generalizing ns with
  | nil => exact fun n hn => nomatch hn
  | @cons a x l L h1 h2 _ ih =>
    cases ns with
    | nil => cases hL
    | cons n ns =>
      obtain ⟨e1, e2⟩ := List.cons.inj hL
      have : 0 ≤ x.1 := by
        rw [← e1]
        show 0 ≤ loI n p u
        unfold loI
        show 0 ≤ (if _ < 0 then 0 else _)
        split <;> omega
      intro m hm
      rcases List.mem_cons.mp hm with rfl | hm
      · omega
      · exact ih e2 m hm
theorem due_head {u p : Int} {ns : List Int} (hu : 0 < u) (hp : 0 < p) (hn : 0 < ns.length) : (dueL u ns p).head? = if fitB p (stL p u ns) = true then some (firstL p (stL p u ns)) else none := by
  have hlen : (stL p u ns).length = ns.length := List.length_map _
  by_cases hf : fitB p (stL p u ns) = true
  · rw [if_pos hf]
    unfold fitB at hf
    simp only [Bool.and_eq_true, Bool.not_eq_true', decide_eq_true_eq] at hf
    obtain ⟨f1, f2, f3⟩ := hf
    obtain ⟨b, s⟩ := fR_box (e := p - loS (stL p u ns)) f1 (by omega) (by show p - loS (stL p u ns) ≤ hiS (stL p u ns) - loS (stL p u ns); omega)
    have hs : (fR (p - loS (stL p u ns)) (stL p u ns)).sum = p := by rw [s]; omega
    have hnn := lo_nn b
    refine head_fil (all_pair (by omega) _) ((mem_all (by omega) hn).mpr ⟨b.sum.2.2.trans hlen, hnn, hs⟩) (decide_eq_true ((due_iff hu hp hnn hs).mpr b)) fun y hy py => ?_
    obtain ⟨_, y2, y3⟩ := (mem_all (by omega) hn).mp hy
    exact fR_least (by omega) ((due_iff hu hp y2 y3).mp (of_decide_eq_true py)) (by rw [y3]; omega)
  · rw [if_neg hf]
    have : dueL u ns p = [] := List.filter_eq_nil_iff.mpr fun y hy py => hf (by
      obtain ⟨_, y2, y3⟩ := (mem_all (by omega) hn).mp hy
      have b := (due_iff hu hp y2 y3).mp (of_decide_eq_true py)
      obtain ⟨b1, b2, _⟩ := b.sum
      unfold fitB
      rw [b.some, decide_eq_true (by omega), decide_eq_true (by omega)] <;> rfl)
    rw [this] <;> rfl
end K70
namespace K70
open PySem PySem.Spec PyProof.Rows L2 Tc Px Py
local macro_rules | `(tactic| fail "x14G10") => `(tactic| first
  | ((with_reducible show G1 _ _ (Stmt.Assign [Expr.Tuple [Expr.Name _ _, Expr.Name _ _] _ _] (Expr.Tuple [Expr.BinOp (Expr.List _ _) Operator.Mult _ _, _] _ _) _) _ _); (with_reducible apply par_on); (with_reducible assumption); (assumption); (eq_refl); (eq_refl); (eq_refl); (eq_refl); (eq_refl); (eq_refl); (eq_refl); (eq_refl); (exact star_cons rfl); (exact star_cons rfl))
  )
local macro_rules | `(tactic| fail "x14G11") => `(tactic| first
  | ((with_reducible show G1 _ _ (Stmt.Expr (Expr.Call (Expr.Attribute (Expr.Name _ _) "append" _) [_] _ _) _) _ _); (with_reducible apply g1_append); (eq_refl); (eq_refl); (eq_refl); rotate_left; (decide); (decide); (eq_refl); (eq_refl); (eq_refl); (exact star_cons rfl); (eq_refl))
  )
local macro_rules | `(tactic| fail "x14G12") => `(tactic| first
  | ((with_reducible show G1 _ _ (Stmt.Assign [Expr.Tuple [Expr.Name _ _, Expr.Name _ _] _ _] (Expr.Tuple [Expr.List _ _, _] _ _) _) _ _); (with_reducible apply par_on); (with_reducible assumption); (assumption); (eq_refl); (eq_refl); (eq_refl); (eq_refl); (eq_refl); (eq_refl); (eq_refl); (eq_refl); (exact star_cons rfl); (exact star_cons rfl))
  )
local macro_rules | `(tactic| fail "x14G1") => `(tactic| first
  | ((with_reducible show G1 _ _ (Stmt.Assign [Expr.Tuple [Expr.Name _ _, Expr.Name _ _] _ _] (Expr.Tuple [Expr.BinOp (Expr.List _ _) Operator.Mult _ _, _] _ _) _) _ _); fail "x14G10")
  | ((with_reducible show G1 _ _ (Stmt.Expr (Expr.Call (Expr.Attribute (Expr.Name _ _) "append" _) [_] _ _) _) _ _); fail "x14G11")
  | ((with_reducible show G1 _ _ (Stmt.Assign [Expr.Tuple [Expr.Name _ _, Expr.Name _ _] _ _] (Expr.Tuple [Expr.List _ _, _] _ _) _) _ _); fail "x14G12")
  )
local macro_rules | `(tactic| fail "x14GT3") => `(tactic| first
  | ((with_reducible show GT _ _ (Expr.Compare _ [CmpOp.NotEq] [Expr.List [] _] _) _ _); (with_reducible apply gt_neL); (first | with_reducible assumption | exact Bod.toCxt (by with_reducible assumption) | exact Cxt.blk (Bod.toCxt (by with_reducible assumption)) _ _ _ _ _ _ | exact Cxt.blk (Cxt.blk (Bod.toCxt (by with_reducible assumption)) _ _ _ _ _ _) _ _ _ _ _ _))
  )
local macro_rules | `(tactic| infer_instance) => `(tactic| first
  | ((with_reducible show G1 _ _ _ _ _); fail "x14G1")
  | ((with_reducible show GQ _ _ false (Expr.Name _ _) _ _); (with_reducible refine gq_of ?_))
  | ((with_reducible show GQ _ _ false (Expr.Call _ _ _ _) _ _); (with_reducible refine gq_of ?_))
  | ((with_reducible show GT _ _ (Expr.Compare _ [CmpOp.NotEq] [Expr.List [] _] _) _ _); fail "x14GT3")
  | ((with_reducible show ∃ d1 d2 d3, _ = [d1, d2, d3] ∧ _); refine ⟨_, _, _, rfl, rfl, rfl, rfl, ?_⟩)
  | ((with_reducible show ∀ B0 : Bas, GE B0 _ _ _ _); intro _)
  | ((with_reducible show ∃ ds0, _ = (if false = true then PyData.list ds0 else PyData.tuple ds0) ∧ _); refine ⟨_, rfl, ?_⟩)
  )
section
variable {P : Program} {w : World} {K : PySem.W.Frag} {mg : Str → Option Value} {base : Heap}
theorem sc_lshares : FnScope ["_law_well_here", "_law_unit", "_law_many", "_law_people", "_law_way", "_law_at", "_law_own", "_law_found_here"] ["_law_well_here", "_law_unit", "_law_many", "_law_people"] (defScope s_lshares) := ⟨rfl, rfl, rfl, by decide +kernel, rfl, by decide +kernel, by decide +kernel⟩
def preSh (ps ds : List PyData) : Prop := Well ps ∧ ∃ u m p : Int, ds = [.int u, .int m, .int p] ∧ unit u ∧ 2 ≤ m ∧ m ≤ 6 ∧ 1 ≤ p ∧ p ≤ 1000
def RSh (_ ds : List PyData) (o : Out) (ps' : List PyData) : Prop := Well ps' ∧ ∃ (u m p : Int) (ns : List Int), ds = [.int u, .int m, .int p] ∧ o = .ok (.tuple (intsD ns)) ∧ (ns.length : Int) = m ∧ Shs u ns
def mxz (a : Int) : Int := if a > 0 then a else 0
theorem Shs.put {u v : Int} {ns : List Int} {k : Nat} (h : Shs u ns) (h0 : 0 ≤ v) (h1 : v ≤ u) : Shs u (ns.set k v) := by
  refine ⟨by rw [List.length_set]; exact h.two, by rw [List.length_set]; exact h.six, fun n hn => ?_⟩
  rcases List.mem_or_eq_of_mem_set hn with hn | rfl
  · exact h.ok n hn
  · exact ⟨h0, h1⟩
theorem ok_shares (F1 : Call P w K mg base (L2.CX P w) 1 "_law_draw" ["_law_well_here", "_law_top"] (spP 1 preDraw RDraw)) (F2 : Call P w K mg base (L2.CX P w) 2 "_law_dealt" ["_law_well_here", "_law_many", "_law_people"] (spP 2 preDe RDe)) (F3 : Call P w K mg base (L2.CX P w) 1 "_law_near" ["_law_unit", "_law_one", "_law_people"] (spF 3 preNear fun ds => .ok (nearLD ds))) {f : Addr} {fd : FuncData} (F : Fun K "_law_shares" "_law_shares" s_lshares f fd) (sm : ∃ o, K.lookup sysModules = some o) (B : Gls mg) :
    FnG P w K mg base (L2.CX P w) 3 f fd ["_law_well_here", "_law_unit", "_law_many", "_law_people"] (spP 3 preSh RSh) := by
  refine fn_pail F sc_lshares sm rfl _ _ fun cdv A outer s H E Bs ad ms ds hl hp c ex => ?_
  obtain ⟨hw, u, m, p, rfl, hu, m2, m6, p0, p1⟩ := hp
  have hu2 : 100 ≤ u ∧ u ≤ 1000 := by rcases hu with rfl | rfl <;> decide
  have nd := sc_lshares.nd
  refine gs_cons ?_
  repeat infer_instance
  refine ⟨⟨hw, _, rfl, by first | decide | omega, by first | decide | omega⟩, fun o ms1 hR => ?_⟩
  clear hw
  obtain ⟨hw, way, top, e, rfl, way0, way1⟩ := hR
  cases e
  refine to_ok ?_
  repeat infer_instance
  refine ⟨⟨hw, _, rfl, by first | decide | omega, by first | decide | omega⟩, fun o ms1 hR => ?_⟩
  clear hw
  obtain ⟨hw, pl, top, e, rfl, pl0, pl1⟩ := hR
  cases e
  refine to_ok ?_
  repeat infer_instance
  rw [eqv_int]
  generalize decide (way = 0) = t
  cases t
  case true =>
    repeat infer_instance
    ((with_reducible apply gf_lk); (eq_refl); (assumption); (eq_refl); (eq_refl); (eq_refl); (intro _; eq_refl))
    repeat infer_instance
    refine ⟨⟨hw, _, rfl, by first | decide | omega, by first | decide | omega⟩, fun o ms1 hR => ?_⟩
    clear hw
    obtain ⟨hw, v, top, e, rfl, v0, v1⟩ := hR
    cases e
    refine to_ok ?_
    repeat infer_instance
    refine ⟨⟨hw, m, _, rfl, m2, m6, by omega, by omega⟩, fun o ms1 hR => ?_⟩
    clear hw
    obtain ⟨hw, m', p', ns, e, rfl, hl2, hn, hs⟩ := hR
    cases e
    refine to_ok ?_
    repeat infer_instance
    refine ⟨Nat.le_trans (show (intsD ns).length ≤ 1000 by rw [List.length_map]; omega) (by decide), fun _ => true, fun i => .int (mn u (asI (nth (intsD ns) i))), fun i hi B' => ?_, ?_⟩
    · have hi : i < ns.length := by rw [List.length_map] at hi; exact hi
      have eN := nth_int hi
      generalize ns[i] = x at eN
      rw [eN]
      repeat infer_instance
      exact ⟨by show PyData.int (mn u x) = .int (mn u (asI (nth (intsD ns) i))); rw [eN] <;> rfl, rfl⟩
    rw [fil_ints fun n => mn u n]
    repeat infer_instance
    exact ⟨hw, u, m, p, _, rfl, rfl, by rw [List.length_map]; exact hl2, by rw [List.length_map]; omega, by rw [List.length_map]; omega, fun n hn2 => by
      obtain ⟨x, hx, rfl⟩ := List.mem_map.mp hn2
      have := hn x hx
      unfold mn
      split <;> omega⟩
  repeat infer_instance
  repeat (with_reducible refine gs_nil ?_)
  show Gs _ _ _ _ _
  refine gs_cons ?_
  repeat infer_instance
  ((with_reducible apply set_lk); (assumption); (assumption); (eq_refl); (eq_refl); (eq_refl); (eq_refl); (eq_refl); (eq_refl); (intro _; eq_refl))
  repeat infer_instance
  refine ⟨⟨hw, m, _, rfl, m2, m6, by omega, by omega⟩, fun o ms1 hR => ?_⟩
  clear hw
  obtain ⟨hw, m', p', ns, e, rfl, hl2, hn, hs⟩ := hR
  cases e
  refine to_ok ?_
  repeat infer_instance
  refine ⟨Nat.le_trans (show (intsD ns).length ≤ 1000 by rw [List.length_map]; omega) (by decide), fun _ => true, fun i => .int (nearI (u * asI (nth (intsD ns) i)) p), fun i hi B' => ?_, ?_⟩
  · have hi : i < ns.length := by rw [List.length_map] at hi; exact hi
    have eN := nth_int hi
    generalize ns[i] = x at eN
    rw [eN]
    intro _ _ _ _ _
    repeat infer_instance
    refine ⟨⟨_, _, _, rfl, hu, by omega, Int.lt_of_le_of_lt p1 (by decide)⟩, ?_⟩
    show (Out.ok (.int (nearI (u * x) p))).to _ _
    refine to_ok ?_
    exact ⟨by show PyData.int (nearI (u * x) p) = .int (nearI (u * asI (nth (intsD ns) i)) p); rw [eN] <;> rfl, rfl⟩
  rw [fil_ints fun n => nearI (u * n) p]
  have eS : ns.map (fun n => nearI (u * n) p) = soL u ns := by unfold soL; rw [hs]
  rw [eS]
  have hS : Shs u (soL u ns) := so_shs (by omega) ⟨by omega, by omega, hn, by omega, by rw [hs]; exact Int.lt_of_le_of_lt p1 (by decide)⟩
  have hSl : ((soL u ns).length : Int) = m := by unfold soL; rw [List.length_map]; exact hl2
  repeat infer_instance
  rw [eqv_int]
  generalize h1 : decide (way = 1) = t
  cases t
  case true =>
    have h1 := of_decide_eq_true h1
    repeat infer_instance
    have hk : pl.toNat < (soL u ns).length := by omega
    refine ix_k pl0 (by rw [List.length_map]; omega) ?_
    rw [nth_int hk]
    have hv := hS.ok _ (List.getElem_mem hk)
    generalize (soL u ns)[pl.toNat] = x at hv ⊢
    repeat infer_instance
    refine ⟨_, _, rfl, _, rfl, ixN_k pl0 (by rw [List.length_map]; omega), ?_⟩
    repeat infer_instance
    repeat (with_reducible refine gs_nil ?_)
    show Gs _ _ _ _ _
    refine gs_cons ?_
    repeat infer_instance
    rw [eqv_int, decide_eq_false (show ¬ way = 2 by omega)]
    repeat infer_instance
    repeat (with_reducible refine gs_nil ?_)
    show Gs _ _ _ _ _
    refine gs_cons ?_
    repeat infer_instance
    exact ⟨hw, u, m, p, (soL u ns).set pl.toNat (mn u (x + 1)), rfl, by
      rw [show intsD ((soL u ns).set pl.toNat (mn u (x + 1))) = (intsD (soL u ns)).set pl.toNat (.int (mn u (x + 1))) from List.map_set] <;> rfl, by rw [List.length_set]; exact hSl, hS.put (by unfold mn; split <;> omega) (by unfold mn; split <;> omega)⟩
  repeat infer_instance
  repeat (with_reducible refine gs_nil ?_)
  show Gs _ _ _ _ _
  refine gs_cons ?_
  repeat infer_instance
  rw [eqv_int]
  generalize h2 : decide (way = 2) = t
  cases t
  case true =>
    repeat infer_instance
    have hk : pl.toNat < (soL u ns).length := by omega
    refine ix_k pl0 (by rw [List.length_map]; omega) ?_
    rw [nth_int hk]
    have hv := hS.ok _ (List.getElem_mem hk)
    generalize (soL u ns)[pl.toNat] = x at hv ⊢
    repeat infer_instance
    refine ⟨_, _, rfl, _, rfl, ixN_k pl0 (by rw [List.length_map]; omega), ?_⟩
    repeat infer_instance
    repeat (with_reducible refine gs_nil ?_)
    show Gs _ _ _ _ _
    refine gs_cons ?_
    repeat infer_instance
    exact ⟨hw, u, m, p, (soL u ns).set pl.toNat (mxz (x - 1)), rfl, by
      rw [show intsD ((soL u ns).set pl.toNat (mxz (x - 1))) = (intsD (soL u ns)).set pl.toNat (.int (mxz (x - 1))) from List.map_set] <;> rfl, by rw [List.length_set]; exact hSl, hS.put (by unfold mxz; split <;> omega) (by unfold mxz; split <;> omega)⟩
  repeat infer_instance
  repeat (with_reducible refine gs_nil ?_)
  show Gs _ _ _ _ _
  refine gs_cons ?_
  repeat infer_instance
  exact ⟨hw, u, m, p, _, rfl, rfl, hSl, hS⟩
end
end K70
namespace K70
open PySem PySem.Spec PyProof.Rows L2 Tc Px Py
local macro_rules | `(tactic| fail "x15G10") => `(tactic| first
  | ((with_reducible show G1 _ _ (Stmt.Assign [Expr.Tuple [Expr.Name _ _, Expr.Name _ _] _ _] (Expr.Tuple [Expr.BinOp (Expr.List _ _) Operator.Mult _ _, _] _ _) _) _ _); (with_reducible apply par_on); (with_reducible assumption); (assumption); (eq_refl); (eq_refl); (eq_refl); (eq_refl); (eq_refl); (eq_refl); (eq_refl); (eq_refl); (exact star_cons rfl); (exact star_cons rfl))
  )
local macro_rules | `(tactic| fail "x15G11") => `(tactic| first
  | ((with_reducible show G1 _ _ (Stmt.Expr (Expr.Call (Expr.Attribute (Expr.Name _ _) "append" _) [_] _ _) _) _ _); (with_reducible apply g1_append); (eq_refl); (eq_refl); (eq_refl); rotate_left; (decide); (decide); (eq_refl); (eq_refl); (eq_refl); (exact star_cons rfl); (eq_refl))
  )
local macro_rules | `(tactic| fail "x15G12") => `(tactic| first
  | ((with_reducible show G1 _ _ (Stmt.Assign [Expr.Tuple [Expr.Name _ _, Expr.Name _ _] _ _] (Expr.Tuple [Expr.List _ _, _] _ _) _) _ _); (with_reducible apply par_on); (with_reducible assumption); (assumption); (eq_refl); (eq_refl); (eq_refl); (eq_refl); (eq_refl); (eq_refl); (eq_refl); (eq_refl); (exact star_cons rfl); (exact star_cons rfl))
  )
local macro_rules | `(tactic| fail "x15G1") => `(tactic| first
  | ((with_reducible show G1 _ _ (Stmt.Assign [Expr.Tuple [Expr.Name _ _, Expr.Name _ _] _ _] (Expr.Tuple [Expr.BinOp (Expr.List _ _) Operator.Mult _ _, _] _ _) _) _ _); fail "x15G10")
  | ((with_reducible show G1 _ _ (Stmt.Expr (Expr.Call (Expr.Attribute (Expr.Name _ _) "append" _) [_] _ _) _) _ _); fail "x15G11")
  | ((with_reducible show G1 _ _ (Stmt.Assign [Expr.Tuple [Expr.Name _ _, Expr.Name _ _] _ _] (Expr.Tuple [Expr.List _ _, _] _ _) _) _ _); fail "x15G12")
  )
local macro_rules | `(tactic| fail "x15GT3") => `(tactic| first
  | ((with_reducible show GT _ _ (Expr.Compare _ [CmpOp.NotEq] [Expr.List [] _] _) _ _); (with_reducible apply gt_neL); (first | with_reducible assumption | exact Bod.toCxt (by with_reducible assumption) | exact Cxt.blk (Bod.toCxt (by with_reducible assumption)) _ _ _ _ _ _ | exact Cxt.blk (Cxt.blk (Bod.toCxt (by with_reducible assumption)) _ _ _ _ _ _) _ _ _ _ _ _))
  )
local macro_rules | `(tactic| fail "x15GE4") => `(tactic| first
  | ((with_reducible show GE _ _ (Expr.Call (Expr.Name "comb" _) [_, _] [] _) _ _); (with_reducible apply ge_comb); (case hx => with_reducible assumption); (exact ⟨rfl, rfl, rfl, rfl, rfl⟩); (eq_refl); (decide); rotate_left; (exact star_cons rfl); (eq_refl))
  )
local macro_rules | `(tactic| infer_instance) => `(tactic| first
  | ((with_reducible show G1 _ _ _ _ _); fail "x15G1")
  | ((with_reducible show GQ _ _ false (Expr.Name _ _) _ _); (with_reducible refine gq_of ?_))
  | ((with_reducible show GT _ _ (Expr.Compare _ [CmpOp.NotEq] [Expr.List [] _] _) _ _); fail "x15GT3")
  | ((with_reducible show GA _ _ (Expr.Starred (Expr.Name _ _) _ :: _) _ _); (with_reducible apply ga_star true); rotate_left; (eq_refl))
  | ((with_reducible show GE _ _ (Expr.Call (Expr.Name "comb" _) [_, _] [] _) _ _); fail "x15GE4")
  | ((with_reducible show ∃ d1 d2 d3, _ = [d1, d2, d3] ∧ _); refine ⟨_, _, _, rfl, rfl, rfl, rfl, ?_⟩)
  | ((with_reducible show ∀ B0 : Bas, GE B0 _ _ _ _); intro _)
  | ((with_reducible show ∃ ds0, _ = (if false = true then PyData.list ds0 else PyData.tuple ds0) ∧ _); refine ⟨_, rfl, ?_⟩)
  )
section
variable {P : Program} {w : World} {K : PySem.W.Frag} {mg : Str → Option Value} {base : Heap}
theorem sc_count_ranges : FnScope ["poll", "people", "stretches", "least", "high", "_", "most", "low"] ["poll", "people"] (defScope s_count_ranges) := ⟨rfl, rfl, rfl, by decide +kernel, rfl, by decide +kernel, by decide +kernel⟩
theorem sc_pollings_number : FnScope ["poll", "people", "stretches", "lots", "low", "_", "high", "sign", "left", "others"] ["poll", "people"] (defScope s_pollings_number) := ⟨rfl, rfl, rfl, by decide +kernel, rfl, by decide +kernel, by decide +kernel⟩
theorem fil_pg {L : List (Int × Int)} {g : Int × Int → PyData} : ((List.range L.length).filter fun _ => true).map (fun i => g (L.getD i (0, 0))) = L.map g := by
  rw [List.filter_eq_self.mpr fun _ _ => rfl]
  refine List.ext_getElem (by rw [List.length_map, List.length_range, List.length_map]) fun i h1 h2 => ?_
  have hi : i < L.length := by rw [List.length_map] at h2; exact h2
  rw [List.getElem_map, List.getElem_range, getD_lt hi, List.getElem_map]
def mxx (a b : Int) : Int := if b > a then b else a
def rangesP (p : Int) (L : List (Int × Int)) : PyData := if fitB p L = true then .tuple (L.map fun x => .tuple [.int (mxx x.1 (p - hiS L + x.2)), .int (mn x.2 (p - loS L + x.1))]) else .none
def rangesD : List PyData → PyData
  | [.dict [_, (_, .int q), (_, .tuple xs), _], .int p] => rangesP p (stL p (wholeI q) (asIs xs))
  | _ => .none
theorem ok_count_ranges {C : Addr} (F1 : Call P w K mg base (L2.CX P w) 4 "_stretches_for" ["poll", "people"] (spF 2 (preCs C) fun ds => .ok (csD ds))) {f : Addr} {fd : FuncData} (F : Fun K "count_ranges" "count_ranges" s_count_ranges f fd) (sm : ∃ o, K.lookup sysModules = some o) (B : Gls mg) :
    FnG P w K mg base (L2.CX P w) 5 f fd ["poll", "people"] (spF 2 (preCs C) fun ds => .ok (rangesD ds)) := by
  refine fn_data F sc_count_ranges sm (by decide) _ _ fun cdv A outer s H E Bs ds hl hp c ex => ?_
  obtain ⟨q, p, ns, rfl, hq, hns, p0, p1⟩ := hp
  have nd := sc_count_ranges.nd
  have e0 : rangesD [inst C (pF q ns), .int p] = rangesP p (stL p (wholeI q) ns) := by
    show rangesP p (stL p (wholeI q) (asIs (intsD ns))) = _
    rw [asIs_ints]
  rw [e0]
  refine gs_cons ?_
  repeat infer_instance
  refine ⟨⟨q, p, ns, rfl, hq, hns, p0, p1⟩, ?_⟩
  rw [cs_eq]
  have hL6 : (stL p (wholeI q) ns).length ≤ 6 := by unfold stL; rw [List.length_map]; exact hns.six
  unfold csO rangesP
  generalize stL p (wholeI q) ns = L at hL6 ⊢
  cases fitB p L
  · rw [if_neg (by decide), if_neg (by decide)]
    repeat infer_instance
    show if true = true then _ else _
    repeat infer_instance
    exact rfl
  rw [if_pos rfl, if_pos rfl]
  repeat infer_instance
  show if false = true then _ else _
  repeat infer_instance
  repeat (with_reducible refine gs_nil ?_)
  show Gs _ _ _ _ _
  refine gs_cons ?_
  repeat infer_instance
  ((with_reducible apply gf_lk); (eq_refl); (assumption); (eq_refl); (eq_refl); (eq_refl); (intro _; eq_refl))
  repeat infer_instance
  refine ⟨Nat.le_trans (show (L.map strP).length ≤ 1000 by rw [List.length_map]; omega) (by decide), fun _ => true, fun i => (fun x : Int × Int => PyData.int x.2) (L.getD i (0, 0)), fun i hi B' => ?_, ?_⟩
  · have hi : i < L.length := by rw [List.length_map] at hi; exact hi
    have eN : nth (L.map strP) i = strP L[i] := nth_str hi
    have eG : L.getD i (0, 0) = L[i] := getD_lt hi
    generalize L[i] = v at eN eG
    rw [eN]
    unfold strP
    repeat infer_instance
    exact ⟨by show (fun x : Int × Int => PyData.int x.2) v = (fun x : Int × Int => PyData.int x.2) (L.getD i (0, 0)); rw [eG], rfl⟩
  rw [show (L.map strP).length = L.length from List.length_map _, fil_pg (g := (fun x : Int × Int => PyData.int x.2))]
  rw [show (L.map fun x => PyData.int x.2) = intsD (L.map fun x => x.2) from List.map_map.symm]
  refine sum_lst (ints_isI _) ?_
  rw [show (intsD (L.map fun x => x.2)).map asI = L.map fun x => x.2 from asIs_ints _]
  repeat infer_instance
  have eS2 : (L.map fun x => x.2).sum = hiS L := rfl
  rw [eS2]
  ((with_reducible apply gf_lk); (eq_refl); (assumption); (eq_refl); (eq_refl); (eq_refl); (intro _; eq_refl))
  repeat infer_instance
  refine ⟨Nat.le_trans (show (L.map strP).length ≤ 1000 by rw [List.length_map]; omega) (by decide), fun _ => true, fun i => (fun x : Int × Int => PyData.int x.1) (L.getD i (0, 0)), fun i hi B' => ?_, ?_⟩
  · have hi : i < L.length := by rw [List.length_map] at hi; exact hi
    have eN : nth (L.map strP) i = strP L[i] := nth_str hi
    have eG : L.getD i (0, 0) = L[i] := getD_lt hi
    generalize L[i] = v at eN eG
    rw [eN]
    unfold strP
    repeat infer_instance
    exact ⟨by show (fun x : Int × Int => PyData.int x.1) v = (fun x : Int × Int => PyData.int x.1) (L.getD i (0, 0)); rw [eG], rfl⟩
  rw [show (L.map strP).length = L.length from List.length_map _, fil_pg (g := (fun x : Int × Int => PyData.int x.1))]
  rw [show (L.map fun x => PyData.int x.1) = intsD (L.map fun x => x.1) from List.map_map.symm]
  refine sum_lst (ints_isI _) ?_
  rw [show (intsD (L.map fun x => x.1)).map asI = L.map fun x => x.1 from asIs_ints _]
  repeat infer_instance
  have eS1 : (L.map fun x => x.1).sum = loS L := rfl
  rw [eS1]
  ((with_reducible apply gf_lk); (eq_refl); (assumption); (eq_refl); (eq_refl); (eq_refl); (intro _; eq_refl))
  repeat infer_instance
  refine ⟨Nat.le_trans (show (L.map strP).length ≤ 1000 by rw [List.length_map]; omega) (by decide), fun _ => true, fun i => (fun x : Int × Int => PyData.tuple [.int (mxx x.1 (p - hiS L + x.2)), .int (mn x.2 (p - loS L + x.1))]) (L.getD i (0, 0)), fun i hi B' => ?_, ?_⟩
  · have hi : i < L.length := by rw [List.length_map] at hi; exact hi
    have eN : nth (L.map strP) i = strP L[i] := nth_str hi
    have eG : L.getD i (0, 0) = L[i] := getD_lt hi
    generalize L[i] = v at eN eG
    rw [eN]
    unfold strP
    repeat infer_instance
    exact ⟨by show (fun x : Int × Int => PyData.tuple [.int (mxx x.1 (p - hiS L + x.2)), .int (mn x.2 (p - loS L + x.1))]) v = (fun x : Int × Int => PyData.tuple [.int (mxx x.1 (p - hiS L + x.2)), .int (mn x.2 (p - loS L + x.1))]) (L.getD i (0, 0)); rw [eG], rfl⟩
  rw [show (L.map strP).length = L.length from List.length_map _, fil_pg (g := (fun x : Int × Int => PyData.tuple [.int (mxx x.1 (p - hiS L + x.2)), .int (mn x.2 (p - loS L + x.1))]))]
end
end K70
namespace K70
open PySem PySem.Spec PyProof.Rows L2 Tc Px Py
local macro_rules | `(tactic| fail "x16G10") => `(tactic| first
  | ((with_reducible show G1 _ _ (Stmt.Assign [Expr.Tuple [Expr.Name _ _, Expr.Name _ _] _ _] (Expr.Tuple [Expr.BinOp (Expr.List _ _) Operator.Mult _ _, _] _ _) _) _ _); (with_reducible apply par_on); (with_reducible assumption); (assumption); (eq_refl); (eq_refl); (eq_refl); (eq_refl); (eq_refl); (eq_refl); (eq_refl); (eq_refl); (exact star_cons rfl); (exact star_cons rfl))
  )
local macro_rules | `(tactic| fail "x16G11") => `(tactic| first
  | ((with_reducible show G1 _ _ (Stmt.Expr (Expr.Call (Expr.Attribute (Expr.Name _ _) "append" _) [_] _ _) _) _ _); (with_reducible apply g1_append); (eq_refl); (eq_refl); (eq_refl); rotate_left; (decide); (decide); (eq_refl); (eq_refl); (eq_refl); (exact star_cons rfl); (eq_refl))
  )
local macro_rules | `(tactic| fail "x16G12") => `(tactic| first
  | ((with_reducible show G1 _ _ (Stmt.Assign [Expr.Tuple [Expr.Name _ _, Expr.Name _ _] _ _] (Expr.Tuple [Expr.List _ _, _] _ _) _) _ _); (with_reducible apply par_on); (with_reducible assumption); (assumption); (eq_refl); (eq_refl); (eq_refl); (eq_refl); (eq_refl); (eq_refl); (eq_refl); (eq_refl); (exact star_cons rfl); (exact star_cons rfl))
  )
local macro_rules | `(tactic| fail "x16G1") => `(tactic| first
  | ((with_reducible show G1 _ _ (Stmt.Assign [Expr.Tuple [Expr.Name _ _, Expr.Name _ _] _ _] (Expr.Tuple [Expr.BinOp (Expr.List _ _) Operator.Mult _ _, _] _ _) _) _ _); fail "x16G10")
  | ((with_reducible show G1 _ _ (Stmt.Expr (Expr.Call (Expr.Attribute (Expr.Name _ _) "append" _) [_] _ _) _) _ _); fail "x16G11")
  | ((with_reducible show G1 _ _ (Stmt.Assign [Expr.Tuple [Expr.Name _ _, Expr.Name _ _] _ _] (Expr.Tuple [Expr.List _ _, _] _ _) _) _ _); fail "x16G12")
  )
local macro_rules | `(tactic| fail "x16GT3") => `(tactic| first
  | ((with_reducible show GT _ _ (Expr.Compare _ [CmpOp.NotEq] [Expr.List [] _] _) _ _); (with_reducible apply gt_neL); (first | with_reducible assumption | exact Bod.toCxt (by with_reducible assumption) | exact Cxt.blk (Bod.toCxt (by with_reducible assumption)) _ _ _ _ _ _ | exact Cxt.blk (Cxt.blk (Bod.toCxt (by with_reducible assumption)) _ _ _ _ _ _) _ _ _ _ _ _))
  )
local macro_rules | `(tactic| fail "x16GE4") => `(tactic| first
  | ((with_reducible show GE _ _ (Expr.Call (Expr.Name "comb" _) [_, _] [] _) _ _); (with_reducible apply ge_comb); (case hx => with_reducible assumption); (exact ⟨rfl, rfl, rfl, rfl, rfl⟩); (eq_refl); (decide); rotate_left; (exact star_cons rfl); (eq_refl))
  )
local macro_rules | `(tactic| infer_instance) => `(tactic| first
  | ((with_reducible show G1 _ _ _ _ _); fail "x16G1")
  | ((with_reducible show GQ _ _ false (Expr.Name _ _) _ _); (with_reducible refine gq_of ?_))
  | ((with_reducible show GQ _ _ true (Expr.Name _ _) _ _); (with_reducible refine gq_of ?_))
  | ((with_reducible show GT _ _ (Expr.Compare _ [CmpOp.NotEq] [Expr.List [] _] _) _ _); fail "x16GT3")
  | ((with_reducible show GA _ _ (Expr.Starred (Expr.Name _ _) _ :: _) _ _); (with_reducible apply ga_star true); rotate_left; (eq_refl))
  | ((with_reducible show GE _ _ (Expr.Call (Expr.Name "comb" _) [_, _] [] _) _ _); fail "x16GE4")
  | ((with_reducible show ∃ d1 d2 d3, _ = [d1, d2, d3] ∧ _); refine ⟨_, _, _, rfl, rfl, rfl, rfl, ?_⟩)
  | ((with_reducible show ∀ B0 : Bas, GE B0 _ _ _ _); intro _)
  | ((with_reducible show ∃ ds0, _ = (if false = true then PyData.list ds0 else PyData.tuple ds0) ∧ _); refine ⟨_, rfl, ?_⟩)
  | ((with_reducible show ∃ ds0, _ = (if true = true then PyData.list ds0 else PyData.tuple ds0) ∧ _); refine ⟨_, rfl, ?_⟩)
  )
section
variable {P : Program} {w : World} {K : PySem.W.Frag} {mg : Str → Option Value} {base : Heap}
theorem fil_gw {A : List (Int × Int)} {P : Int × Int → Bool} {g : Int × Int → Int} : ((List.range A.length).filter fun i => P (A.getD i (0, 0))).map (fun i => PyData.int (g (A.getD i (0, 0)))) = intsD ((A.filter P).map g) := by
  have e : A = (List.range A.length).map fun i => A.getD i (0, 0) := by
    refine List.ext_getElem (by rw [List.length_map, List.length_range]) fun i h1 h2 => ?_
    rw [List.getElem_map, List.getElem_range, getD_lt h1]
  conv => rhs; rw [e, List.filter_map]
  unfold intsD
  rw [List.map_map, List.map_map]
  rfl
def stepL (A : List (Int × Int)) (x : Int × Int) : List (Int × Int) := A ++ A.map fun y => (-y.1, y.2 - (x.2 - x.1 + 1))
def lotsL (r : Int) (L : List (Int × Int)) : List (Int × Int) := L.foldl stepL [(1, r)]
theorem lots_len : ∀ (L : List (Int × Int)) (A : List (Int × Int)), (L.foldl stepL A).length = A.length * 2 ^ L.length
  | [], A => by show A.length = A.length * 1; omega
  | x :: L, A => by
    show (L.foldl stepL (stepL A x)).length = _
    rw [lots_len L, List.length_cons, Nat.pow_succ]
    unfold stepL
    rw [List.length_append, List.length_map, ← Nat.two_mul, Nat.mul_comm 2, Nat.mul_assoc, Nat.mul_comm 2]
theorem lots_ok {r : Int} : ∀ (L : List (Int × Int)) (A : List (Int × Int)), (∀ x ∈ L, x.1 ≤ x.2) → (∀ y ∈ A, (y.1 = 1 ∨ y.1 = -1) ∧ y.2 ≤ r) → ∀ y ∈ L.foldl stepL A, (y.1 = 1 ∨ y.1 = -1) ∧ y.2 ≤ r
  | [], _, _, h => h
  | x :: L, A, hw, h => by
    refine lots_ok L (stepL A x) (fun z hz => hw z (.tail _ hz)) fun y hy => ?_
    rcases List.mem_append.mp hy with h1 | h1
    · exact h y h1
    obtain ⟨z, hz, rfl⟩ := List.mem_map.mp h1
    have hx := hw x (.head _)
    obtain ⟨h2, h3⟩ := h z hz
    refine ⟨?_, by show z.2 - (x.2 - x.1 + 1) ≤ r; omega⟩
    show -z.1 = 1 ∨ -z.1 = -1
    omega
theorem lots_snoc {r : Int} {L : List (Int × Int)} {i : Nat} (h : i < L.length) : lotsL r (L.take (i + 1)) = stepL (lotsL r (L.take i)) L[i] := by
  unfold lotsL
  rw [List.take_succ, List.getElem?_eq_getElem h, Option.toList_some, List.foldl_append] <;> rfl
def numP (p : Int) (L : List (Int × Int)) : Int := if fitB p L = true then (((lotsL (p - loS L) L).filter fun y => decide (0 ≤ y.2)).map fun y => y.1 * PySem.W.mcComb (y.2 + ((L.length : Int) - 1)) ((L.length : Int) - 1)).sum else 0
def numD : List PyData → PyData
  | [.dict [_, (_, .int q), (_, .tuple xs), _], .int p] => .int (numP p (stL p (wholeI q) (asIs xs)))
  | _ => .none
theorem fit_parts {p : Int} {L : List (Int × Int)} (h : fitB p L = true) : (∀ x ∈ L, x.1 ≤ x.2) ∧ loS L ≤ p ∧ p ≤ hiS L := by
  unfold fitB at h
  rw [Bool.and_eq_true, Bool.and_eq_true] at h
  refine ⟨fun x hx => ?_, of_decide_eq_true h.2.1, of_decide_eq_true h.2.2⟩
  have h1 : noneB L = false := by
    have := h.1
    generalize noneB L = b at this
    cases b
    · rfl
    · cases this
  unfold noneB at h1
  have := List.any_eq_false.mp h1 x hx
  rw [decide_eq_true_eq] at this
  omega
theorem ok_pollings_number {C : Addr} (gc : mg "comb" = some (.builtin "math.comb")) (F1 : Call P w K mg base (L2.CX P w) 4 "_stretches_for" ["poll", "people"] (spF 2 (preCs C) fun ds => .ok (csD ds))) {f : Addr} {fd : FuncData} (F : Fun K "pollings_number" "pollings_number" s_pollings_number f fd) (sm : ∃ o, K.lookup sysModules = some o) (B : Gls mg) :
    FnG P w K mg base (L2.CX P w) 5 f fd ["poll", "people"] (spF 2 (preCs C) fun ds => .ok (numD ds)) := by
  refine fn_data F sc_pollings_number sm (by decide) _ _ fun cdv A outer s H E Bs ds hl hp c ex => ?_
  obtain ⟨q, p, ns, rfl, hq, hns, p0, p1⟩ := hp
  have nd := sc_pollings_number.nd
  have e0 : numD [inst C (pF q ns), .int p] = .int (numP p (stL p (wholeI q) ns)) := by
    show PyData.int (numP p (stL p (wholeI q) (asIs (intsD ns)))) = _
    rw [asIs_ints]
  rw [e0]
  refine gs_cons ?_
  repeat infer_instance
  refine ⟨⟨q, p, ns, rfl, hq, hns, p0, p1⟩, ?_⟩
  rw [cs_eq]
  have hL6 : (stL p (wholeI q) ns).length ≤ 6 := by unfold stL; rw [List.length_map]; exact hns.six
  have hL2 : 2 ≤ (stL p (wholeI q) ns).length := by unfold stL; rw [List.length_map]; exact hns.two
  have hLo : 0 ≤ loS (stL p (wholeI q) ns) := (sum_ge fun n hn => by
    obtain ⟨x, hx, rfl⟩ := List.mem_map.mp hn
    obtain ⟨s, _, rfl⟩ := List.mem_map.mp hx
    show 0 ≤ loI s p (wholeI q)
    unfold loI
    dsimp only
    split <;> omega).1
  unfold csO numP
  generalize stL p (wholeI q) ns = L at hL6 hL2 hLo ⊢
  cases hfb : fitB p L
  · rw [if_neg (by decide), if_neg (by decide)]
    repeat infer_instance
    show if true = true then _ else _
    repeat infer_instance
    exact rfl
  obtain ⟨hw, hl0, hl1⟩ := fit_parts hfb
  rw [if_pos rfl, if_pos rfl]
  repeat infer_instance
  show if false = true then _ else _
  repeat infer_instance
  repeat (with_reducible refine gs_nil ?_)
  show Gs _ _ _ _ _
  refine gs_cons ?_
  repeat infer_instance
  ((with_reducible apply gf_lk); (eq_refl); (assumption); (eq_refl); (eq_refl); (eq_refl); (intro _; eq_refl))
  repeat infer_instance
  refine ⟨Nat.le_trans (show (L.map strP).length ≤ 1000 by rw [List.length_map]; omega) (by decide), fun _ => true, fun i => (fun x : Int × Int => PyData.int x.1) (L.getD i (0, 0)), fun i hi B' => ?_, ?_⟩
  · have hi : i < L.length := by rw [List.length_map] at hi; exact hi
    have eN : nth (L.map strP) i = strP L[i] := nth_str hi
    have eG : L.getD i (0, 0) = L[i] := getD_lt hi
    generalize L[i] = v at eN eG
    rw [eN]
    unfold strP
    repeat infer_instance
    exact ⟨by show (fun x : Int × Int => PyData.int x.1) v = (fun x : Int × Int => PyData.int x.1) (L.getD i (0, 0)); rw [eG], rfl⟩
  rw [show (L.map strP).length = L.length from List.length_map _, fil_pg (g := (fun x : Int × Int => PyData.int x.1))]
  rw [show (L.map fun x => PyData.int x.1) = intsD (L.map fun x => x.1) from List.map_map.symm]
  refine sum_lst (ints_isI _) ?_
  rw [show (intsD (L.map fun x => x.1)).map asI = L.map fun x => x.1 from asIs_ints _]
  repeat infer_instance
  have eS1 : (L.map fun x => x.1).sum = loS L := rfl
  rw [eS1]
  repeat infer_instance
  have hA : ∀ (i : Nat), ∀ y ∈ lotsL (p - loS L) (L.take i), (y.1 = 1 ∨ y.1 = -1) ∧ y.2 ≤ p - loS L := fun i => lots_ok (L.take i) [(1, p - loS L)] (fun x hx => hw x (List.mem_of_mem_take hx)) fun y hy => by
    rw [List.mem_singleton.mp hy]
    exact ⟨.inl rfl, Int.le_refl _⟩
  have hN : ∀ i, (lotsL (p - loS L) (L.take i)).length ≤ 64 := fun i => by
    unfold lotsL
    rw [lots_len, List.length_take]
    exact Nat.le_trans (Nat.mul_le_mul_left 1 (Nat.pow_le_pow_right (by decide) (show min i L.length ≤ 6 by omega))) (by decide)
  refine ⟨fun i Γ => ∃ (s4 s5 s6 s7 s8 : Sl), Γ = [.d (inst C (pF q ns)), .d (.int p), .d (.list (L.map strP)), .d (.list ((lotsL (p - loS L) (L.take i)).map strP)), s4, .no, s5, s6, s7, s8], ⟨_, _, _, _, _, rfl⟩, fun _ _ _ _ => trivial, ?_, ?_⟩
  · rintro i Γ hi ⟨s4, s5, s6, s7, s8, rfl⟩
    have hi : i < L.length := by rw [List.length_map] at hi; exact hi
    have eN : nth (L.map strP) i = strP L[i] := nth_str hi
    show GG _ _ _ (nth (L.map strP) i) _ _
    rw [eN]
    have eT := lots_snoc (r := p - loS L) hi
    have hAi := hN i
    generalize lotsL (p - loS L) (L.take i) = A at hAi eT ⊢
    generalize L[i] = x0 at eT ⊢
    rw [show strP x0 = .tuple [.int x0.1, .int x0.2] from rfl]
    repeat infer_instance
    ((with_reducible apply gf_lk); (eq_refl); (assumption); (eq_refl); (eq_refl); (eq_refl); (intro _; eq_refl))
    repeat infer_instance
    refine ⟨Nat.le_trans (show (A.map strP).length ≤ 1000 by rw [List.length_map]; omega) (by decide), fun _ => true, fun i => (fun y : Int × Int => PyData.tuple [.int (-y.1), .int (y.2 - (x0.2 - x0.1 + 1))]) (A.getD i (0, 0)), fun i hi B' => ?_, ?_⟩
    · have hi : i < A.length := by rw [List.length_map] at hi; exact hi
      have eN : nth (A.map strP) i = strP A[i] := nth_str hi
      have eG : A.getD i (0, 0) = A[i] := getD_lt hi
      generalize A[i] = v at eN eG
      rw [eN]
      unfold strP
      repeat infer_instance
      exact ⟨by show (fun y : Int × Int => PyData.tuple [.int (-y.1), .int (y.2 - (x0.2 - x0.1 + 1))]) v = (fun y : Int × Int => PyData.tuple [.int (-y.1), .int (y.2 - (x0.2 - x0.1 + 1))]) (A.getD i (0, 0)); rw [eG], rfl⟩
    rw [show (A.map strP).length = A.length from List.length_map _, fil_pg (g := (fun y : Int × Int => PyData.tuple [.int (-y.1), .int (y.2 - (x0.2 - x0.1 + 1))]))]
    repeat infer_instance
    have eZ : A.map strP ++ (A.map (fun y : Int × Int => PyData.tuple [.int (-y.1), .int (y.2 - (x0.2 - x0.1 + 1))]) ++ []) = (stepL A x0).map strP := by
      unfold stepL
      rw [List.append_nil, List.map_append, List.map_map] <;> rfl
    rw [eZ]
    refine ⟨Nat.le_trans (show ((stepL A x0).map strP).length ≤ 128 by
      rw [List.length_map]
      unfold stepL
      rw [List.length_append, List.length_map]
      omega) (by decide), ?_⟩
    repeat infer_instance
    repeat (with_reducible refine gs_nil ?_)
    exact ⟨.d (.int x0.1), .d (.int x0.2), .no, .no, s8, by rw [eT] <;> rfl⟩
  · rintro Γ ⟨s4, s5, s6, s7, s8, rfl⟩
    rw [show (L.map strP).length = L.length from List.length_map _, List.take_length]
    have hA2 := hA L.length
    have hN2 := hN L.length
    rw [List.take_length] at hA2 hN2
    show Gs _ _ _ _ _
    refine gs_cons ?_
    generalize lotsL (p - loS L) L = A at hA2 hN2 ⊢
    repeat infer_instance
    rw [show ((L.map strP).length : Int) = L.length from by rw [List.length_map]]
    ((with_reducible apply gf_lk); (eq_refl); (assumption); (eq_refl); (eq_refl); (eq_refl); (intro _; eq_refl))
    repeat infer_instance
    refine ⟨Nat.le_trans (show (A.map strP).length ≤ 1000 by rw [List.length_map]; omega) (by decide), fun i => decide (0 ≤ (A.getD i (0, 0)).2), fun i => .int ((A.getD i (0, 0)).1 * PySem.W.mcComb ((A.getD i (0, 0)).2 + ((L.length : Int) - 1)) ((L.length : Int) - 1)), fun i hi B' => ?_, ?_⟩
    · have hi : i < A.length := by rw [List.length_map] at hi; exact hi
      have eN : nth (A.map strP) i = strP A[i] := nth_str hi
      have eG : A.getD i (0, 0) = A[i] := getD_lt hi
      have hy := hA2 _ (List.getElem_mem hi)
      generalize A[i] = y at eN eG hy
      rw [eN]
      unfold strP
      intro _ _ _ _ _
      repeat infer_instance
      refine ⟨by show decide _ = decide (0 ≤ (A.getD i (0, 0)).2); rw [eG] <;> rfl, ?_⟩
      rw [show decide (y.2 ≥ 0) = decide (0 ≤ y.2) from rfl]
      cases h0 : decide (0 ≤ y.2)
      · repeat infer_instance
      have h0 := of_decide_eq_true h0
      repeat infer_instance
      refine ⟨⟨by omega, Int.lt_of_le_of_lt (show y.2 + ((L.length : Int) - 1) ≤ 4000 by omega) (by decide)⟩, ⟨by omega, by omega⟩, .inl (.inl (by
        rcases hy.1 with h | h
        · rw [h] <;> exact ⟨by decide, by decide⟩
        · rw [h] <;> exact ⟨by decide, by decide⟩)), ?_⟩
      exact ⟨by show PyData.int _ = .int ((A.getD i (0, 0)).1 * PySem.W.mcComb ((A.getD i (0, 0)).2 + ((L.length : Int) - 1)) ((L.length : Int) - 1)); rw [eG] <;> rfl, rfl⟩
    rw [List.length_map, fil_gw (P := fun y => decide (0 ≤ y.2)) (g := fun y => y.1 * PySem.W.mcComb (y.2 + ((L.length : Int) - 1)) ((L.length : Int) - 1))]
    refine sum_lst (ints_isI _) ?_
    rw [show ∀ ns : List Int, (intsD ns).map asI = ns from asIs_ints]
    repeat infer_instance
end
end K70
namespace K70
open PySem PySem.Spec PyProof.Rows L2 Tc Px Py
local macro_rules | `(tactic| fail "x17G10") => `(tactic| first
  | ((with_reducible show G1 _ _ (Stmt.Assign [Expr.Tuple [Expr.Name _ _, Expr.Name _ _] _ _] (Expr.Tuple [Expr.BinOp (Expr.List _ _) Operator.Mult _ _, _] _ _) _) _ _); (with_reducible apply par_on); (with_reducible assumption); (assumption); (eq_refl); (eq_refl); (eq_refl); (eq_refl); (eq_refl); (eq_refl); (eq_refl); (eq_refl); (exact star_cons rfl); (exact star_cons rfl))
  )
local macro_rules | `(tactic| fail "x17G11") => `(tactic| first
  | ((with_reducible show G1 _ _ (Stmt.Expr (Expr.Call (Expr.Attribute (Expr.Name _ _) "append" _) [_] _ _) _) _ _); (with_reducible apply g1_append); (eq_refl); (eq_refl); (eq_refl); rotate_left; (decide); (decide); (eq_refl); (eq_refl); (eq_refl); (exact star_cons rfl); (eq_refl))
  )
local macro_rules | `(tactic| fail "x17G12") => `(tactic| first
  | ((with_reducible show G1 _ _ (Stmt.Assign [Expr.Tuple [Expr.Name _ _, Expr.Name _ _] _ _] (Expr.Tuple [Expr.List _ _, _] _ _) _) _ _); (with_reducible apply par_on); (with_reducible assumption); (assumption); (eq_refl); (eq_refl); (eq_refl); (eq_refl); (eq_refl); (eq_refl); (eq_refl); (eq_refl); (exact star_cons rfl); (exact star_cons rfl))
  )
local macro_rules | `(tactic| fail "x17G1") => `(tactic| first
  | ((with_reducible show G1 _ _ (Stmt.Assign [Expr.Tuple [Expr.Name _ _, Expr.Name _ _] _ _] (Expr.Tuple [Expr.BinOp (Expr.List _ _) Operator.Mult _ _, _] _ _) _) _ _); fail "x17G10")
  | ((with_reducible show G1 _ _ (Stmt.Expr (Expr.Call (Expr.Attribute (Expr.Name _ _) "append" _) [_] _ _) _) _ _); fail "x17G11")
  | ((with_reducible show G1 _ _ (Stmt.Assign [Expr.Tuple [Expr.Name _ _, Expr.Name _ _] _ _] (Expr.Tuple [Expr.List _ _, _] _ _) _) _ _); fail "x17G12")
  )
local macro_rules | `(tactic| fail "x17GT3") => `(tactic| first
  | ((with_reducible show GT _ _ (Expr.Compare _ [CmpOp.NotEq] [Expr.List [] _] _) _ _); (with_reducible apply gt_neL); (first | with_reducible assumption | exact Bod.toCxt (by with_reducible assumption) | exact Cxt.blk (Bod.toCxt (by with_reducible assumption)) _ _ _ _ _ _ | exact Cxt.blk (Cxt.blk (Bod.toCxt (by with_reducible assumption)) _ _ _ _ _ _) _ _ _ _ _ _))
  )
local macro_rules | `(tactic| infer_instance) => `(tactic| first
  | ((with_reducible show G1 _ _ _ _ _); fail "x17G1")
  | ((with_reducible show GQ _ _ false (Expr.Name _ _) _ _); (with_reducible refine gq_of ?_))
  | ((with_reducible show GT _ _ (Expr.Compare _ [CmpOp.NotEq] [Expr.List [] _] _) _ _); fail "x17GT3")
  | ((with_reducible show ∃ d1 d2 d3, _ = [d1, d2, d3] ∧ _); refine ⟨_, _, _, rfl, rfl, rfl, rfl, ?_⟩)
  | ((with_reducible show ∀ B0 : Bas, GE B0 _ _ _ _); intro _)
  | ((with_reducible show ∃ ds0, _ = (if false = true then PyData.list ds0 else PyData.tuple ds0) ∧ _); refine ⟨_, rfl, ?_⟩)
  )
section
variable {P : Program} {w : World} {K : PySem.W.Frag} {mg : Str → Option Value} {base : Heap}
theorem sc_lends : FnScope ["_law_unit", "_law_share", "_law_people", "_law_low"] ["_law_unit", "_law_share", "_law_people"] (defScope s_lends) := ⟨rfl, rfl, rfl, by decide +kernel, rfl, by decide +kernel, by decide +kernel⟩
theorem sc_lways : FnScope ["_law_rooms", "_law_rest", "_law_ways_here", "_law_room", "_law_sums", "_law_own", "_law_k"] ["_law_rooms", "_law_rest"] (defScope s_lways) := ⟨rfl, rfl, rfl, by decide +kernel, rfl, by decide +kernel, by decide +kernel⟩
def preEn (ds : List PyData) : Prop := ∃ u s p : Int, ds = [.int u, .int s, .int p] ∧ unit u ∧ (0 ≤ s ∧ s ≤ 1000) ∧ (1 ≤ p ∧ p ≤ 3000)
def enO (s p u : Int) : PyData := .list [.int (loI s p u), .int (hiI s p u)]
def enD : List PyData → PyData
  | [.int u, .int s, .int p] => enO s p u
  | _ => .none
theorem ends_lo {s p u : Int} (hu : 100 ≤ u ∧ u ≤ 1000) (hs : 0 ≤ s ∧ s ≤ 1000) (hp : 1 ≤ p ∧ p ≤ 3000) : loI s p u = if s > 0 then -((1 - 2 * s) * p / (2 * u)) else 0 := by
  unfold loI
  dsimp only
  have e : (1 - 2 * s) * p = -((2 * s - 1) * p) := by rw [← Int.neg_mul]; congr 1; omega
  rw [e]
  by_cases h : s > 0
  · rw [if_pos h]
    have h1 : 1 ≤ (2 * s - 1) * p := Int.le_trans (show 1 ≤ 1 * p by omega) (Int.mul_le_mul_of_nonneg_right (by omega) (by omega))
    generalize (2 * s - 1) * p = x at h1 ⊢
    have h2 : (x + 2 * u - 1) / (2 * u) = -(-x / (2 * u)) := by
      have a1 := Int.mul_ediv_add_emod (-x) (2 * u)
      have a2 := Int.emod_nonneg (-x) (show 2 * u ≠ 0 by omega)
      have a3 := Int.emod_lt_of_pos (-x) (show 0 < 2 * u by omega)
      refine Int.le_antisymm ?_ ?_
      · refine Int.le_of_lt_add_one ((Int.ediv_lt_iff_lt_mul (by omega)).mpr ?_)
        have : (-(-x / (2 * u)) + 1) * (2 * u) = -(2 * u * (-x / (2 * u))) + 2 * u := by rw [Int.add_mul, Int.neg_mul, Int.one_mul, Int.mul_comm (-x / (2 * u))]
        omega
      · refine (Int.le_ediv_iff_mul_le (by omega)).mpr ?_
        have : -(-x / (2 * u)) * (2 * u) = -(2 * u * (-x / (2 * u))) := by rw [Int.neg_mul, Int.mul_comm (-x / (2 * u))]
        omega
    rw [h2]
    have h3 : -x / (2 * u) < 0 := Int.ediv_neg_of_neg_of_pos (by omega) (by omega)
    rw [if_neg (by omega)]
  · rw [if_neg h]
    have h0 : s = 0 := by omega
    subst h0
    have h1 : (2 * 0 - 1) * p = -p := by omega
    rw [h1]
    have h2 : (-p + 2 * u - 1) / (2 * u) < 1 := (Int.ediv_lt_iff_lt_mul (by omega)).mpr (by omega)
    split <;> omega
theorem ends_hi {s p u : Int} (hu : 100 ≤ u ∧ u ≤ 1000) : hiI s p u = if ((2 * s + 1) * p - 1) / (2 * u) < p then ((2 * s + 1) * p - 1) / (2 * u) else p := by
  unfold hiI
  dsimp only
  generalize (2 * s + 1) * p = x
  have h : (x + 2 * u - 1) / (2 * u) - 1 = (x - 1) / (2 * u) := by
    rw [show x + 2 * u - 1 = (x - 1) + 1 * (2 * u) by omega, Int.add_mul_ediv_right _ _ (by omega)]
    omega
  rw [h]
  split <;> split <;> omega
theorem ok_ends {f : Addr} {fd : FuncData} (F : Fun K "_law_ends" "_law_ends" s_lends f fd) (sm : ∃ o, K.lookup sysModules = some o) (B : Gls mg) :
    FnG P w K mg base (L2.CX P w) 1 f fd ["_law_unit", "_law_share", "_law_people"] (spF 3 preEn fun ds => .ok (enD ds)) := by
  refine fn_data F sc_lends sm (by decide) _ _ fun cdv A outer s H E Bs ds hl hp c ex => ?_
  obtain ⟨u, sh, p, rfl, hu, hs, hp⟩ := hp
  have hu2 : 100 ≤ u ∧ u ≤ 1000 := by rcases hu with rfl | rfl <;> decide
  have nd := sc_lends.nd
  have e0 : enD [.int u, .int sh, .int p] = enO sh p u := rfl
  rw [e0]
  unfold enO
  rw [ends_lo hu2 hs hp, ends_hi hu2]
  refine gs_cons ?_
  repeat infer_instance
  by_cases h : 0 < sh
  · rw [decide_eq_true h, if_pos (show sh > 0 from h)]
    repeat infer_instance
    exact rfl
  · rw [decide_eq_false h, if_neg (show ¬ sh > 0 from h)]
    repeat infer_instance
    exact rfl
end
end K70
namespace K70
open PySem PySem.Spec PyProof.Rows L2 Tc Px Py
local macro_rules | `(tactic| fail "x18G10") => `(tactic| first
  | ((with_reducible show G1 _ _ (Stmt.Assign [Expr.Name "_law_sums" _] (Expr.List _ _) _) _ _); (with_reducible apply set_lc); (with_reducible assumption); (eq_refl); (eq_refl); rotate_left; (eq_refl); (eq_refl))
  )
local macro_rules | `(tactic| fail "x18G11") => `(tactic| first
  | ((with_reducible show G1 _ _ (Stmt.Assign [Expr.Tuple [Expr.Name _ _, Expr.Name _ _] _ _] (Expr.Tuple [Expr.BinOp (Expr.List _ _) Operator.Mult _ _, _] _ _) _) _ _); (with_reducible apply par_on); (with_reducible assumption); (assumption); (eq_refl); (eq_refl); (eq_refl); (eq_refl); (eq_refl); (eq_refl); (eq_refl); (eq_refl); (exact star_cons rfl); (exact star_cons rfl))
  )
local macro_rules | `(tactic| fail "x18G12") => `(tactic| first
  | ((with_reducible show G1 _ _ (Stmt.Expr (Expr.Call (Expr.Attribute (Expr.Name _ _) "append" _) [_] _ _) _) _ _); (with_reducible apply g1_append); (eq_refl); (eq_refl); (eq_refl); rotate_left; (decide); (decide); (eq_refl); (eq_refl); (eq_refl); (exact star_cons rfl); (eq_refl))
  )
local macro_rules | `(tactic| fail "x18G13") => `(tactic| first
  | ((with_reducible show G1 _ _ (Stmt.Assign [Expr.Tuple [Expr.Name _ _, Expr.Name _ _] _ _] (Expr.Tuple [Expr.List _ _, _] _ _) _) _ _); (with_reducible apply par_on); (with_reducible assumption); (assumption); (eq_refl); (eq_refl); (eq_refl); (eq_refl); (eq_refl); (eq_refl); (eq_refl); (eq_refl); (exact star_cons rfl); (exact star_cons rfl))
  )
local macro_rules | `(tactic| fail "x18G1") => `(tactic| first
  | ((with_reducible show G1 _ _ (Stmt.Assign [Expr.Name "_law_sums" _] (Expr.List _ _) _) _ _); fail "x18G10")
  | ((with_reducible show G1 _ _ (Stmt.Assign [Expr.Tuple [Expr.Name _ _, Expr.Name _ _] _ _] (Expr.Tuple [Expr.BinOp (Expr.List _ _) Operator.Mult _ _, _] _ _) _) _ _); fail "x18G11")
  | ((with_reducible show G1 _ _ (Stmt.Expr (Expr.Call (Expr.Attribute (Expr.Name _ _) "append" _) [_] _ _) _) _ _); fail "x18G12")
  | ((with_reducible show G1 _ _ (Stmt.Assign [Expr.Tuple [Expr.Name _ _, Expr.Name _ _] _ _] (Expr.Tuple [Expr.List _ _, _] _ _) _) _ _); fail "x18G13")
  )
local macro_rules | `(tactic| fail "x18GT4") => `(tactic| first
  | ((with_reducible show GT _ _ (Expr.Compare _ [CmpOp.NotEq] [Expr.List [] _] _) _ _); (with_reducible apply gt_neL); (first | with_reducible assumption | exact Bod.toCxt (by with_reducible assumption) | exact Cxt.blk (Bod.toCxt (by with_reducible assumption)) _ _ _ _ _ _ | exact Cxt.blk (Cxt.blk (Bod.toCxt (by with_reducible assumption)) _ _ _ _ _ _) _ _ _ _ _ _))
  )
local macro_rules | `(tactic| infer_instance) => `(tactic| first
  | ((with_reducible show G1 _ _ _ _ _); fail "x18G1")
  | ((with_reducible show GQ _ _ false (Expr.Name _ _) _ _); (with_reducible refine gq_of ?_))
  | ((with_reducible show GT _ _ (Expr.Compare _ [CmpOp.NotEq] [Expr.List [] _] _) _ _); fail "x18GT4")
  | ((with_reducible show GE _ _ (Expr.BinOp (Expr.List _ _) Operator.Mult _ _) _ _); (with_reducible refine ge_ofF ?_))
  | ((with_reducible show ∃ d1 d2 d3, _ = [d1, d2, d3] ∧ _); refine ⟨_, _, _, rfl, rfl, rfl, rfl, ?_⟩)
  | ((with_reducible show ∀ B0 : Bas, GE B0 _ _ _ _); intro _)
  | ((with_reducible show ∃ ds0, _ = (if false = true then PyData.list ds0 else PyData.tuple ds0) ∧ _); refine ⟨_, rfl, ?_⟩)
  )
section
variable {P : Program} {w : World} {K : PySem.W.Frag} {mg : Str → Option Value} {base : Heap}
def smF (f : Nat → Int) : Nat → Int
  | 0 => 0
  | j + 1 => smF f j + f j
def dstep (room : Nat) (f : Nat → Int) : Nat → Int := fun k => smF f (k + 1) - smF f (k - room)
def dl0 : Nat → Int := fun k => if k = 0 then 1 else 0
def dF (rs : List Int) : Nat → Int := rs.foldl (fun f r => dstep r.toNat f) dl0
def tblD (n : Nat) (f : Nat → Int) : List PyData := (List.range n).map fun k => .int (f k)
theorem tbl_len (n : Nat) (f : Nat → Int) : (tblD n f).length = n := by unfold tblD; rw [List.length_map, List.length_range]
theorem tbl_nth {n : Nat} {f : Nat → Int} {i : Nat} (h : i < n) : nth (tblD n f) i = .int (f i) := by
  unfold tblD
  rw [nth_map (by rw [List.length_range]; exact h), List.getElem_range]
theorem tbl_get {n : Nat} {f : Nat → Int} {i : Nat} (h : i < (tblD n f).length) : (tblD n f)[i] = .int (f i) := (List.getElem_map (l := List.range n) (fun k => PyData.int (f k)) (i := i) (h := h)).trans (by rw [List.getElem_range])
theorem tbl_snoc (n : Nat) (f : Nat → Int) : tblD (n + 1) f = tblD n f ++ [.int (f n)] := by unfold tblD; rw [List.range_succ, List.map_append] <;> rfl
theorem tbl_last {j : Nat} {f : Nat → Int} {k : PyData → Prop} (h : k (.int (f j))) : IxD (.list (tblD (j + 1) f)) (.int (-1)) k := by
  rw [tbl_snoc]
  exact at_snoc h
theorem tbl_ix {n : Nat} {f : Nat → Int} {v : Int} {k : PyData → Prop} (h0 : 0 ≤ v) (h1 : v.toNat < n) (h : k (.int (f v.toNat))) : IxD (.list (tblD n f)) (.int v) k := by
  refine ix_k h0 (by rw [tbl_len]; omega) ?_
  rw [tbl_nth h1]
  exact h
def preWy (ds : List PyData) : Prop := ∃ (rs : List Int) (r : Int), ds = [.list (intsD rs), .int r] ∧ rs.length ≤ 6 ∧ (∀ x ∈ rs, 0 ≤ x ∧ x ≤ 3000) ∧ 0 ≤ r ∧ r ≤ 1000
def wyD : List PyData → PyData
  | [.list xs, .int r] => .int (dF (asIs xs) r.toNat)
  | _ => .none
theorem ok_ways {f : Addr} {fd : FuncData} (F : Fun K "_law_ways" "_law_ways" s_lways f fd) (sm : ∃ o, K.lookup sysModules = some o) (B : Gls mg) :
    FnG P w K mg base (L2.CX P w) 1 f fd ["_law_rooms", "_law_rest"] (spF 2 preWy fun ds => .ok (wyD ds)) := by
  refine fn_data F sc_lways sm (by decide) _ _ fun cdv A outer s H E Bs ds hl hp c ex => ?_
  obtain ⟨rs, r, rfl, h6, hr, r0, r1⟩ := hp
  have nd := sc_lways.nd
  have e0 : wyD [.list (intsD rs), .int r] = .int (dF rs r.toNat) := by
    show PyData.int (dF (asIs (intsD rs)) r.toNat) = _
    rw [asIs_ints]
  rw [e0]
  refine gs_cons ?_
  repeat infer_instance
  have eR : (List.replicate r.toNat [PyData.int 0]).flatten = List.replicate r.toNat (.int 0) := by
    generalize r.toNat = k
    induction k with
    | zero => rfl
    | succ k ih => rw [List.replicate_succ, List.flatten_cons, ih, List.replicate_succ] <;> rfl
  rw [eR]
  have e1 : ∀ k : Nat, [PyData.int 1] ++ List.replicate k (.int 0) = tblD (k + 1) dl0 := by
    intro k
    induction k with
    | zero => rfl
    | succ k ih => rw [List.replicate_succ', ← List.append_assoc, ih, tbl_snoc (k + 1)] <;> rfl
  refine add_ll (Nat.le_trans (show _ ≤ 1001 by rw [List.length_replicate]; show 1 + r.toNat ≤ 1001; omega) (by decide)) ?_
  rw [e1]
  have hT : ∀ g : Nat → Int, (tblD (r.toNat + 1) g).length ≤ 1001 := fun g => by rw [tbl_len]; omega
  repeat infer_instance
  refine ⟨fun i Γ => ∃ (s3 s4 s5 : Sl), Γ = [.d (.list (intsD rs)), .d (.int r), .d (.list (tblD (r.toNat + 1) (dF (rs.take i)))), s3, s4, s5, .no], ⟨_, _, _, rfl⟩, fun _ _ _ _ => trivial, ?_, ?_⟩
  · rintro i Γ hi ⟨s3, s4, s5, rfl⟩
    have hi : i < rs.length := by rw [List.length_map] at hi; exact hi
    have hx := hr _ (List.getElem_mem hi)
    have eD : dF (rs.take (i + 1)) = dstep (rs[i]).toNat (dF (rs.take i)) := by
      unfold dF
      rw [List.take_succ, List.getElem?_eq_getElem hi, Option.toList_some, List.foldl_append] <;> rfl
    show GG _ _ _ (nth (intsD rs) i) _ _
    rw [nth_int hi]
    generalize rs[i] = x at hx eD ⊢
    generalize dF (rs.take i) = g at eD ⊢
    repeat infer_instance
    refine ⟨fun j Γ => ∃ (a2 : Addr) (s5 : Sl), Γ = [.d (.list (intsD rs)), .d (.int r), .d (.list (tblD (r.toNat + 1) g)), .d (.int x), .own a2 (tblD (j + 1) (smF g)), s5, .no], ⟨_, _, rfl⟩, fun _ _ _ _ => trivial, ?_, ?_⟩
    · rintro j Γ hj ⟨a2, s5, rfl⟩
      have hj : j < r.toNat + 1 := by rw [tbl_len] at hj; exact hj
      show GG _ _ _ (nth (tblD (r.toNat + 1) g) j) _ _
      rw [tbl_nth hj]
      repeat infer_instance
      refine tbl_last ?_
      repeat infer_instance
      refine ⟨Nat.lt_of_le_of_lt (show (tblD (j + 1) (smF g)).length ≤ 1001 by rw [tbl_len]; omega) (by decide), ?_⟩
      repeat (with_reducible refine gs_nil ?_)
      refine ⟨a2, .d (.int (g j)), ?_⟩
      rw [tbl_snoc (j + 1)] <;> rfl
    · rintro Γ ⟨a2, s5, rfl⟩
      rw [tbl_len]
      repeat (with_reducible refine gs_nil ?_)
      show Gs _ _ _ _ _
      refine gs_cons ?_
      repeat infer_instance
      ((with_reducible apply set_ld); (assumption); (assumption); (eq_refl); (eq_refl); (eq_refl); (eq_refl); (eq_refl); (eq_refl); (intro _; eq_refl))
      repeat infer_instance
      refine ⟨by omega, by omega, trivial, Nat.le_trans (show (r + 1).toNat ≤ 1001 by omega) (by decide), fun _ => true, fun i => .int (dstep x.toNat g i), fun k hk B' => ?_, ?_⟩
      · intro _ _ _ _ _
        repeat infer_instance
        refine tbl_ix (by omega) (by omega) ?_
        repeat infer_instance
        have hm : (if 0 + (k : Int) - x > 0 then 0 + (k : Int) - x else 0) = ((k - x.toNat : Nat) : Int) := by split <;> omega
        rw [hm]
        refine tbl_ix (by omega) (by omega) ?_
        repeat infer_instance
        refine ⟨?_, rfl⟩
        show PyData.int _ = .int (smF g (k + 1) - smF g (k - x.toNat))
        rw [show (0 + (k : Int) + 1).toNat = k + 1 by omega, Int.toNat_natCast]
      repeat infer_instance
      repeat (with_reducible refine gs_nil ?_)
      refine ⟨.d (.int x), .own a2 (tblD (r.toNat + 1 + 1) (smF g)), s5, ?_⟩
      rw [eD]
      unfold tblD
      rw [List.filter_eq_self.mpr fun _ _ => rfl, show (r + 1).toNat = r.toNat + 1 by omega] <;> rfl
  · rintro Γ ⟨s3, s4, s5, rfl⟩
    rw [show (intsD rs).length = rs.length from List.length_map _, List.take_length]
    repeat (with_reducible refine gs_nil ?_)
    show Gs _ _ _ _ _
    refine gs_cons ?_
    repeat infer_instance
    exact tbl_ix r0 (by omega) rfl
end
end K70
namespace K70
open PySem PySem.Spec PyProof.Rows L2 Tc Px Py
local macro_rules | `(tactic| fail "x19G10") => `(tactic| first
  | ((with_reducible show G1 _ _ (Stmt.Assign [Expr.Tuple [Expr.Name _ _, Expr.Name _ _] _ _] (Expr.Tuple [Expr.BinOp (Expr.List _ _) Operator.Mult _ _, _] _ _) _) _ _); (with_reducible apply par_on); (with_reducible assumption); (assumption); (eq_refl); (eq_refl); (eq_refl); (eq_refl); (eq_refl); (eq_refl); (eq_refl); (eq_refl); (exact star_cons rfl); (exact star_cons rfl))
  )
local macro_rules | `(tactic| fail "x19G11") => `(tactic| first
  | ((with_reducible show G1 _ _ (Stmt.Expr (Expr.Call (Expr.Attribute (Expr.Name _ _) "append" _) [_] _ _) _) _ _); (with_reducible apply g1_append); (eq_refl); (eq_refl); (eq_refl); rotate_left; (decide); (decide); (eq_refl); (eq_refl); (eq_refl); (exact star_cons rfl); (eq_refl))
  )
local macro_rules | `(tactic| fail "x19G12") => `(tactic| first
  | ((with_reducible show G1 _ _ (Stmt.Assign [Expr.Tuple [Expr.Name _ _, Expr.Name _ _] _ _] (Expr.Tuple [Expr.List _ _, _] _ _) _) _ _); (with_reducible apply par_on); (with_reducible assumption); (assumption); (eq_refl); (eq_refl); (eq_refl); (eq_refl); (eq_refl); (eq_refl); (eq_refl); (eq_refl); (exact star_cons rfl); (exact star_cons rfl))
  )
local macro_rules | `(tactic| fail "x19G1") => `(tactic| first
  | ((with_reducible show G1 _ _ (Stmt.Assign [Expr.Tuple [Expr.Name _ _, Expr.Name _ _] _ _] (Expr.Tuple [Expr.BinOp (Expr.List _ _) Operator.Mult _ _, _] _ _) _) _ _); fail "x19G10")
  | ((with_reducible show G1 _ _ (Stmt.Expr (Expr.Call (Expr.Attribute (Expr.Name _ _) "append" _) [_] _ _) _) _ _); fail "x19G11")
  | ((with_reducible show G1 _ _ (Stmt.Assign [Expr.Tuple [Expr.Name _ _, Expr.Name _ _] _ _] (Expr.Tuple [Expr.List _ _, _] _ _) _) _ _); fail "x19G12")
  )
local macro_rules | `(tactic| fail "x19GT3") => `(tactic| first
  | ((with_reducible show GT _ _ (Expr.Compare _ [CmpOp.NotEq] [Expr.List [] _] _) _ _); (with_reducible apply gt_neL); (first | with_reducible assumption | exact Bod.toCxt (by with_reducible assumption) | exact Cxt.blk (Bod.toCxt (by with_reducible assumption)) _ _ _ _ _ _ | exact Cxt.blk (Cxt.blk (Bod.toCxt (by with_reducible assumption)) _ _ _ _ _ _) _ _ _ _ _ _))
  )
local macro_rules | `(tactic| infer_instance) => `(tactic| first
  | ((with_reducible show G1 _ _ _ _ _); fail "x19G1")
  | ((with_reducible show GQ _ _ false (Expr.Name _ _) _ _); (with_reducible refine gq_of ?_))
  | ((with_reducible show GT _ _ (Expr.Compare _ [CmpOp.NotEq] [Expr.List [] _] _) _ _); fail "x19GT3")
  | ((with_reducible show ∃ d1 d2 d3, _ = [d1, d2, d3] ∧ _); refine ⟨_, _, _, rfl, rfl, rfl, rfl, ?_⟩)
  | ((with_reducible show ∀ B0 : Bas, GE B0 _ _ _ _); intro _)
  | ((with_reducible show ∃ ds0, _ = (if false = true then PyData.list ds0 else PyData.tuple ds0) ∧ _); refine ⟨_, rfl, ?_⟩)
  )
section
variable {P : Program} {w : World} {K : PySem.W.Frag} {mg : Str → Option Value} {base : Heap}
theorem sc_ltold_right : FnScope ["_law_unit", "_law_shares_here", "_law_people", "_law_due", "_law_mine", "_law_told", "_law_again"] ["_law_unit", "_law_shares_here", "_law_people", "_law_due"] (defScope s_ltold_right) := ⟨rfl, rfl, rfl, by decide +kernel, rfl, by decide +kernel, by decide +kernel⟩
def dueO (u p : Int) (ns : List Int) : PyData := .list [rangesP p (stL p u ns), .int (numP p (stL p u ns)), firstP p (stL p u ns)]
def preTo (ds : List PyData) : Prop := ∃ (u : Int) (ns : List Int) (p : Int), ds = [.int u, .tuple (intsD ns), .int p, dueO u p ns] ∧ unit u ∧ Shs u ns ∧ (1 ≤ p ∧ p ≤ 3000) ∧ 0 ≤ numP p (stL p u ns) ∧ numP p (stL p u ns) < 10 ^ 19
theorem gn_big {i : Int} (h0 : 0 ≤ i) (h1 : i < 10 ^ 19) : GN 20 0 (.int i) := by
  have hb : i.natAbs < 2 ^ 64 := Nat.lt_of_lt_of_le (show i.natAbs < 10 ^ 19 by omega) (by decide)
  have lg : i.natAbs.log2 < 64 := by
    by_cases e : i.natAbs = 0
    · rw [e]
      decide
    · exact (Nat.log2_lt e).mpr hb
  refine ⟨decide_eq_true (by omega), Nat.le_refl 0, ?_⟩
  show (Str.ofString (toString i)).length ≤ 20
  exact Nat.le_trans (PyProof.Rows.toString_length_le h0 (k := 19) (by decide) (by exact h1)) (by decide)
theorem lohi {u p sh : Int} (hp : 0 < p) : 0 ≤ loI sh p u ∧ hiI sh p u ≤ p := by
  constructor
  · unfold loI
    dsimp only
    split <;> omega
  · unfold hiI
    dsimp only
    split <;> omega
theorem none_of {L : List (Int × Int)} (h : ∀ x ∈ L, x.1 ≤ x.2) : noneB L = false := by
  unfold noneB
  refine List.any_eq_false.mpr fun x hx => ?_
  have := h x hx
  rw [decide_eq_true_eq]
  omega
theorem gn_ints {ns : List Int} {u : Int} (h : ∀ n ∈ ns, 0 ≤ n ∧ n ≤ u) (hu : u ≤ 100000) (h6 : ns.length ≤ 6) : GN 100 2 (.tuple (intsD ns)) := (gn_tup (n := 13) (k := 0) fun x hx => by
    obtain ⟨n, hn, rfl⟩ := List.mem_map.mp hx
    have := h n hn
    exact gn_int (by omega) (by omega)).mono (by rw [List.length_map]; omega) (by decide)
theorem box_bd {p u : Int} {ns l : List Int} (hp : 1 ≤ p) (h : Box l (stL p u ns)) : (∀ n ∈ l, 0 ≤ n ∧ n ≤ p) ∧ l.length = ns.length := by
  refine ⟨fun n hn => ⟨lo_nn h n hn, ?_⟩, by rw [h.sum.2.2]; exact List.length_map _⟩
  generalize hL : stL p u ns = L at h
  induction h generalizing ns with
  | nil => exact nomatch hn
  | @cons a x l L h1 h2 _ ih =>
    cases ns with
    | nil => cases hL
    | cons m ns =>
      obtain ⟨e1, e2⟩ := List.cons.inj hL
      have : x.2 ≤ p := by
        rw [← e1]
        exact (lohi (by omega)).2
      rcases List.mem_cons.mp hn with rfl | hm
      · omega
      · exact ih hm e2
theorem st_bd {p u : Int} {ns : List Int} (hp : 1 ≤ p) : ∀ x ∈ stL p u ns, 0 ≤ x.1 ∧ x.2 ≤ p := fun x hx => by
  obtain ⟨n, _, rfl⟩ := List.mem_map.mp hx
  exact lohi (by omega)
theorem gn_first {p u : Int} {ns : List Int} (hp : 1 ≤ p ∧ p ≤ 3000) (h6 : ns.length ≤ 6) : GN 100 2 (firstP p (stL p u ns)) := by
  unfold firstP
  cases h : fitB p (stL p u ns)
  · rw [if_neg (by decide)]
    decide
  rw [if_pos rfl]
  obtain ⟨h1, h2, h3⟩ := fit_parts h
  have hB := (fR_box (L := stL p u ns) (e := p - loS (stL p u ns)) (none_of h1) (by omega) (by unfold wd; omega)).1
  obtain ⟨b1, b2⟩ := box_bd hp.1 hB
  exact gn_ints (u := 3000) (fun n hn => ⟨(b1 n hn).1, Int.le_trans (b1 n hn).2 hp.2⟩) (by decide) (by rw [show (firstL p (stL p u ns)).length = ns.length from b2]; exact h6)
theorem sum_one {L : List (Int × Int)} {f : Int × Int → Int} (h : ∀ x ∈ L, 0 ≤ f x) : ∀ x ∈ L, f x ≤ (L.map f).sum := fun x hx => (sum_ge (ns := L.map f) fun n hn => by
    obtain ⟨y, hy, rfl⟩ := List.mem_map.mp hn
    exact h y hy).2 _ (List.mem_map.mpr ⟨x, hx, rfl⟩)
theorem gn_ranges {p u : Int} {ns : List Int} (hp : 1 ≤ p ∧ p ≤ 3000) (h6 : ns.length ≤ 6) : GN 400 4 (rangesP p (stL p u ns)) := by
  unfold rangesP
  cases h : fitB p (stL p u ns)
  · rw [if_neg (by decide)]
    decide
  rw [if_pos rfl]
  obtain ⟨h1, h2, h3⟩ := fit_parts h
  have hb := st_bd (u := u) (ns := ns) hp.1
  have hl : (stL p u ns).length ≤ 6 := by unfold stL; rw [List.length_map]; exact h6
  have s1 := sum_one (L := stL p u ns) (f := fun x => x.2) fun x hx => by
    have := hb x hx
    have := h1 x hx
    omega
  generalize stL p u ns = L at h1 h2 h3 hb hl s1 ⊢
  refine (gn_tup (n := 40) (k := 1) fun d hd => ?_).mono (by rw [List.length_map]; omega) (by decide)
  obtain ⟨x, hx, rfl⟩ := List.mem_map.mp hd
  obtain ⟨b1, b2⟩ := hb x hx
  have b3 := h1 x hx
  have b4 : x.2 ≤ hiS L := s1 x hx
  refine (gn_tup (n := 13) (k := 0) fun d hd => ?_).mono (by show 2 * (13 + 2) + 3 ≤ 40; decide) (by decide)
  simp only [List.mem_cons, List.not_mem_nil, or_false] at hd
  rcases hd with rfl | rfl
  · exact gn_int (by unfold mxx; split <;> omega) (by unfold mxx; split <;> omega)
  · exact gn_int (by unfold mn; split <;> omega) (by unfold mn; split <;> omega)
theorem told_tail {C : Addr} (F1 : Call P w K mg base (L2.CX P w) 5 "count_ranges" ["poll", "people"] (spF 2 (preCs C) fun ds => .ok (rangesD ds))) (F1R : CallR P w K mg base (L2.CX P w) 5 "count_ranges" ["poll", "people"] (spF 2 (preCs C) fun ds => .ok (rangesD ds)) ["people", "poll"]) (F2 : Call P w K mg base (L2.CX P w) 5 "pollings_number" ["poll", "people"] (spF 2 (preCs C) fun ds => .ok (numD ds))) (F2R : CallR P w K mg base (L2.CX P w) 5 "pollings_number" ["poll", "people"] (spF 2 (preCs C) fun ds => .ok (numD ds)) ["people", "poll"]) (F3 : Call P w K mg base (L2.CX P w) 5 "first_counts" ["poll", "people"] (spF 2 (preCs C) fun ds => .ok (firstCD ds)))
    (sm : ∃ o, K.lookup sysModules = some o) (B : Gls mg) {f : Addr} {cdv : Value} {A : Around} {outer : List Env} {s : Shared} {H : Hp} {E : XK} {Bs : Bas} {u p q : Int} {ns : List Int} {ψ : Addr → PyData → List Sl → Prop}
    (c : Bod (cxOf (L2.CX P w) P w K mg base ["_law_unit", "_law_shares_here", "_law_people", "_law_due", "_law_mine", "_law_told", "_law_again"] "_law_told_right" (defScope s_ltold_right) f cdv A outer s H E) 6) (ex : Exc Bs (cxOf (L2.CX P w) P w K mg base ["_law_unit", "_law_shares_here", "_law_people", "_law_due", "_law_mine", "_law_told", "_law_again"] "_law_told_right" (defScope s_ltold_right) f cdv A outer s H E) ψ)
    (hu : unit u) (hns : Shs u ns) (hp : 1 ≤ p ∧ p ≤ 3000) (hn : 0 ≤ numP p (stL p u ns) ∧ numP p (stL p u ns) < 10 ^ 19) (hq : place q) (hqu : wholeI q = u) :
    Gs Bs (cxOf (L2.CX P w) P w K mg base ["_law_unit", "_law_shares_here", "_law_people", "_law_due", "_law_mine", "_law_told", "_law_again"] "_law_told_right" (defScope s_ltold_right) f cdv A outer s H E) ((defBody s_ltold_right).drop 1) [.d (.int u), .d (.tuple (intsD ns)), .d (.int p), .d (dueO u p ns), .d (inst C (pF q ns)), .no, .no]
      { nx := fun _ => Out.ok (.bool true) = .ok .none, rt := fun d _ => Out.ok (.bool true) = .ok d } := by
  have nd := sc_ltold_right.nd
  have hP : preCs C [inst C (pF q ns), .int p] := ⟨q, p, ns, rfl, hq, by rw [hqu]; exact hns, hp.1, by omega⟩
  have e1 : rangesD [inst C (pF q ns), .int p] = rangesP p (stL p u ns) := by
    show rangesP p (stL p (wholeI q) (asIs (intsD ns))) = _
    rw [asIs_ints, hqu]
  have e2 : numD [inst C (pF q ns), .int p] = .int (numP p (stL p u ns)) := by
    show PyData.int (numP p (stL p (wholeI q) (asIs (intsD ns)))) = _
    rw [asIs_ints, hqu]
  have e3 : firstCD [inst C (pF q ns), .int p] = firstP p (stL p u ns) := by
    show firstP p (stL p (wholeI q) (asIs (intsD ns))) = _
    rw [asIs_ints, hqu]
  unfold dueO
  refine gs_cons ?_
  repeat infer_instance
  refine ⟨hP, ?_⟩
  rw [e1]
  refine to_ok ?_
  repeat infer_instance
  refine ⟨hP, ?_⟩
  rw [e2]
  refine to_ok ?_
  repeat infer_instance
  refine ⟨hP, ?_⟩
  rw [e3]
  refine to_ok ?_
  repeat infer_instance
  refine ⟨hP, ?_⟩
  rw [e1]
  refine to_ok ?_
  repeat infer_instance
  refine ⟨hP, ?_⟩
  rw [e2]
  refine to_ok ?_
  repeat infer_instance
  have g1 := gn_ranges (u := u) hp hns.six
  have g2 := gn_big hn.1 hn.2
  have g3 := gn_first (u := u) hp hns.six
  generalize rangesP p (stL p u ns) = d1 at g1 ⊢
  generalize numP p (stL p u ns) = i2 at g2 ⊢
  generalize firstP p (stL p u ns) = d3 at g3 ⊢
  have hG1 : GN 1300 5 (.list [d1, .int i2, d3]) := (gn_list (n := 400) (k := 4) fun x hx => by
    simp only [List.mem_cons, List.not_mem_nil, or_false] at hx
    rcases hx with rfl | rfl | rfl
    · exact g1
    · exact g2.mono (by decide) (by decide)
    · exact g3.mono (by decide) (by decide)).mono (by show 3 * (400 + 2) + 2 ≤ 1300; decide) (by decide)
  have hG2 : GN 1300 5 (.list [d1, .int i2]) := (gn_list (n := 400) (k := 4) fun x hx => by
    simp only [List.mem_cons, List.not_mem_nil, or_false] at hx
    rcases hx with rfl | rfl
    · exact g1
    · exact g2.mono (by decide) (by decide)).mono (by show 2 * (400 + 2) + 2 ≤ 1300; decide) (by decide)
  have hG : GN 3000 10 (.list [.list [d1, .int i2, d3], .list [d1, .int i2]]) := (gn_list (n := 1300) (k := 5) fun x hx => by
    simp only [List.mem_cons, List.not_mem_nil, or_false] at hx
    rcases hx with rfl | rfl
    · exact hG1
    · exact hG2).mono (by show 2 * (1300 + 2) + 2 ≤ 3000; decide) (by decide)
  refine ⟨hG.good (by decide) (by decide), ?_⟩
  repeat infer_instance
  rw [show Px.cutD [d1, .int i2, d3] none (some 2) = [d1, .int i2] from rfl]
  refine ⟨hG.good (by decide) (by decide), ?_⟩
  repeat infer_instance
  rw [eqv_str]
  exact congrArg (fun t => Out.ok (PyData.bool t)) (decide_eq_true rfl).symm
theorem ok_told_right {C : Addr} (M : MakeD P w K mg base 5 "Poll" C 2 ["self", "places", "shares"] prePoll fun ds => .ok (pollF ds)) (F1 : Call P w K mg base (L2.CX P w) 5 "count_ranges" ["poll", "people"] (spF 2 (preCs C) fun ds => .ok (rangesD ds))) (F1R : CallR P w K mg base (L2.CX P w) 5 "count_ranges" ["poll", "people"] (spF 2 (preCs C) fun ds => .ok (rangesD ds)) ["people", "poll"]) (F2 : Call P w K mg base (L2.CX P w) 5 "pollings_number" ["poll", "people"] (spF 2 (preCs C) fun ds => .ok (numD ds))) (F2R : CallR P w K mg base (L2.CX P w) 5 "pollings_number" ["poll", "people"] (spF 2 (preCs C) fun ds => .ok (numD ds)) ["people", "poll"]) (F3 : Call P w K mg base (L2.CX P w) 5 "first_counts" ["poll", "people"] (spF 2 (preCs C) fun ds => .ok (firstCD ds))) {f : Addr} {fd : FuncData} (F : Fun K "_law_told_right" "_law_told_right" s_ltold_right f fd) (sm : ∃ o, K.lookup sysModules = some o) (B : Gls mg) :
    FnG P w K mg base (L2.CX P w) 7 f fd ["_law_unit", "_law_shares_here", "_law_people", "_law_due"] (spF 4 preTo fun _ => .ok (.bool true)) := by
  refine fn_data F sc_ltold_right sm (by decide) _ _ fun cdv A outer s H E Bs ds hl hp c ex => ?_
  obtain ⟨u, ns, p, rfl, hu, hns, hp, hn⟩ := hp
  have nd := sc_ltold_right.nd
  have T := fun q => told_tail F1 F1R F2 F2R F3 sm B (u := u) (ns := ns) (p := p) (q := q) c ex hu hns hp hn
  refine gs_cons ?_
  repeat infer_instance
  rw [eqv_int]
  rcases hu with rfl | rfl
  · rw [show decide ((100 : Int) = 1000) = false from rfl]
    repeat infer_instance
    refine ⟨⟨0, ns, rfl, .inl rfl, hns⟩, ?_⟩
    show (OutI.ok (pF 0 (asIs (intsD ns)))).to _ _
    rw [asIs_ints]
    refine ⟨rfl, ?_⟩
    exact T 0 (.inl rfl) rfl
  · rw [show decide ((1000 : Int) = 1000) = true from rfl]
    repeat infer_instance
    refine ⟨⟨1, ns, rfl, .inr rfl, hns⟩, ?_⟩
    show (OutI.ok (pF 1 (asIs (intsD ns)))).to _ _
    rw [asIs_ints]
    refine ⟨rfl, ?_⟩
    exact T 1 (.inr rfl) rfl
end
end K70
namespace K70
open PySem PySem.Spec PyProof.Rows L2 Tc Px Py
local macro_rules | `(tactic| fail "x20G10") => `(tactic| first
  | ((with_reducible show G1 _ _ (Stmt.Assign [Expr.Tuple [Expr.Name "_law_first" _, Expr.Name _ _] _ _] (Expr.Tuple [Expr.ListComp _ _ _ _, _] _ _) _) _ _); (with_reducible apply par_on); (with_reducible assumption); (assumption); (eq_refl); (eq_refl); (eq_refl); (eq_refl); (eq_refl); (eq_refl); (eq_refl); (eq_refl); (exact star_cons rfl); (exact star_cons rfl))
  )
local macro_rules | `(tactic| fail "x20G11") => `(tactic| first
  | ((with_reducible show G1 _ _ (Stmt.Assign [Expr.Tuple [Expr.Name _ _, Expr.Name _ _] _ _] (Expr.Tuple [Expr.BinOp (Expr.List _ _) Operator.Mult _ _, _] _ _) _) _ _); (with_reducible apply par_on); (with_reducible assumption); (assumption); (eq_refl); (eq_refl); (eq_refl); (eq_refl); (eq_refl); (eq_refl); (eq_refl); (eq_refl); (exact star_cons rfl); (exact star_cons rfl))
  )
local macro_rules | `(tactic| fail "x20G12") => `(tactic| first
  | ((with_reducible show G1 _ _ (Stmt.Expr (Expr.Call (Expr.Attribute (Expr.Name _ _) "append" _) [_] _ _) _) _ _); (with_reducible apply g1_append); (eq_refl); (eq_refl); (eq_refl); rotate_left; (decide); (decide); (eq_refl); (eq_refl); (eq_refl); (exact star_cons rfl); (eq_refl))
  )
local macro_rules | `(tactic| fail "x20G13") => `(tactic| first
  | ((with_reducible show G1 _ _ (Stmt.Assign [Expr.Tuple [Expr.Name _ _, Expr.Name _ _] _ _] (Expr.Tuple [Expr.List _ _, _] _ _) _) _ _); (with_reducible apply par_on); (with_reducible assumption); (assumption); (eq_refl); (eq_refl); (eq_refl); (eq_refl); (eq_refl); (eq_refl); (eq_refl); (eq_refl); (exact star_cons rfl); (exact star_cons rfl))
  )
local macro_rules | `(tactic| fail "x20G1") => `(tactic| first
  | ((with_reducible show G1 _ _ (Stmt.Assign [Expr.Tuple [Expr.Name "_law_first" _, Expr.Name _ _] _ _] (Expr.Tuple [Expr.ListComp _ _ _ _, _] _ _) _) _ _); fail "x20G10")
  | ((with_reducible show G1 _ _ (Stmt.Assign [Expr.Tuple [Expr.Name _ _, Expr.Name _ _] _ _] (Expr.Tuple [Expr.BinOp (Expr.List _ _) Operator.Mult _ _, _] _ _) _) _ _); fail "x20G11")
  | ((with_reducible show G1 _ _ (Stmt.Expr (Expr.Call (Expr.Attribute (Expr.Name _ _) "append" _) [_] _ _) _) _ _); fail "x20G12")
  | ((with_reducible show G1 _ _ (Stmt.Assign [Expr.Tuple [Expr.Name _ _, Expr.Name _ _] _ _] (Expr.Tuple [Expr.List _ _, _] _ _) _) _ _); fail "x20G13")
  )
local macro_rules | `(tactic| fail "x20GI4") => `(tactic| first
  | ((with_reducible show GI _ _ _ (Expr.Call (Expr.Name "range" _) [_, _, _] _ _) _ _); (with_reducible apply gi_rg3); (with_reducible eq_refl); (eq_refl); (exact Gls.range (by assumption)); rotate_left; (exact star_cons rfl); (eq_refl))
  )
local macro_rules | `(tactic| fail "x20GT5") => `(tactic| first
  | ((with_reducible show GT _ _ (Expr.Compare _ [CmpOp.NotEq] [Expr.List [] _] _) _ _); (with_reducible apply gt_neL); (first | with_reducible assumption | exact Bod.toCxt (by with_reducible assumption) | exact Cxt.blk (Bod.toCxt (by with_reducible assumption)) _ _ _ _ _ _ | exact Cxt.blk (Cxt.blk (Bod.toCxt (by with_reducible assumption)) _ _ _ _ _ _) _ _ _ _ _ _))
  )
local macro_rules | `(tactic| infer_instance) => `(tactic| first
  | ((with_reducible show G1 _ _ _ _ _); fail "x20G1")
  | ((with_reducible show GI _ _ _ (Expr.Call (Expr.Name "range" _) [_, _, _] _ _) _ _); fail "x20GI4")
  | ((with_reducible show GQ _ _ true (Expr.Name _ _) _ _); (with_reducible refine gq_of ?_))
  | ((with_reducible show GQ _ _ false (Expr.Name _ _) _ _); (with_reducible refine gq_of ?_))
  | ((with_reducible show GT _ _ (Expr.Compare _ [CmpOp.NotEq] [Expr.List [] _] _) _ _); fail "x20GT5")
  | ((with_reducible show IxD (PyData.list [_, _]) (PyData.int _) _); (refine ⟨_, rfl, ?_⟩))
  | ((with_reducible show ∃ ds0, _ = (if true = true then PyData.list ds0 else PyData.tuple ds0) ∧ _); refine ⟨_, rfl, ?_⟩)
  | ((with_reducible show ∃ d1 d2 d3, _ = [d1, d2, d3] ∧ _); refine ⟨_, _, _, rfl, rfl, rfl, rfl, ?_⟩)
  | ((with_reducible show ∀ B0 : Bas, GE B0 _ _ _ _); intro _)
  | ((with_reducible show ∃ ds0, _ = (if false = true then PyData.list ds0 else PyData.tuple ds0) ∧ _); refine ⟨_, rfl, ?_⟩)
  )
section
variable {P : Program} {w : World} {K : PySem.W.Frag} {mg : Str → Option Value} {base : Heap}
theorem sc_lreckoned : FnScope ["_law_unit", "_law_shares_here", "_law_people", "_law_ends_now", "_law_share", "_law_low", "_law_high", "_law_end", "_law_due", "_law_first", "_law_more", "_law_k", "_law_own"] ["_law_unit", "_law_shares_here", "_law_people"] (defScope s_lreckoned) := ⟨rfl, rfl, rfl, by decide +kernel, rfl, by decide +kernel, by decide +kernel⟩
def lstP (x : Int × Int) : PyData := .list [.int x.1, .int x.2]
def preRk (ds : List PyData) : Prop := ∃ (u : Int) (ns : List Int) (p : Int), ds = [.int u, .tuple (intsD ns), .int p] ∧ unit u ∧ Shs u ns ∧ (1 ≤ p ∧ p ≤ 1000)
def dueW (p : Int) (L : List (Int × Int)) : PyData := .list [rangesP p L, .int (if fitB p L = true then dF (L.map fun x => x.2 - x.1) (p - loS L).toNat else 0), firstP p L]
def rkD : List PyData → PyData
  | [.int u, .tuple xs, .int p] => dueW p (stL p u (asIs xs))
  | _ => .none
theorem nth_lst {L : List (Int × Int)} {i : Nat} (h : i < L.length) : nth (L.map lstP) i = lstP L[i] := by
  rw [nth_map h]
def Fi (p : Int) (L : List (Int × Int)) (i : Nat) : Nat → Int := fun k => if k + i < L.length then (L.getD k (0, 0)).1 else (fl (p - loS L) L.reverse).getD (L.length - 1 - k) 0
theorem tbl_set {n k : Nat} {f g : Nat → Int} {v : Int} (hv : g k = v) (h : ∀ j, j < n → j ≠ k → g j = f j) : (tblD n f).set k (.int v) = tblD n g := by
  refine List.ext_getElem (by rw [List.length_set, tbl_len, tbl_len]) fun j h1 h2 => ?_
  rw [tbl_len] at h2
  rw [List.getElem_set, tbl_get]
  split
  · rename_i e
    subst e
    rw [tbl_get, hv]
  · rename_i e
    rw [tbl_get, h j h2 fun z => e z.symm]
theorem fi_step {p : Int} {L : List (Int × Int)} {i : Nat} {v : Int} (hi : i < L.length) (h : (fl (p - loS L) L.reverse)[i]? = some v) : (tblD L.length (Fi p L i)).set (L.length - 1 - i) (.int v) = tblD L.length (Fi p L (i + 1)) := by
  refine tbl_set ?_ fun j hj hne => ?_
  · unfold Fi
    rw [if_neg (by omega), show L.length - 1 - (L.length - 1 - i) = i by omega, List.getD_eq_getElem?_getD, h] <;> rfl
  · unfold Fi
    by_cases h1 : j + i < L.length
    · rw [if_pos h1, if_pos (by omega)]
    · rw [if_neg h1, if_neg (by omega)]
theorem fi_end {p : Int} {L : List (Int × Int)} : tblD L.length (Fi p L L.length) = intsD (firstL p L) := by
  have hl : (fl (p - loS L) L.reverse).length = L.length := by rw [fl_len, List.length_reverse]
  refine List.ext_getElem (by rw [tbl_len, List.length_map]; unfold firstL; rw [List.length_reverse, hl]) fun j h1 h2 => ?_
  rw [tbl_len] at h1
  rw [tbl_get]
  unfold Fi
  rw [if_neg (by omega), List.getElem_map]
  unfold firstL
  rw [List.getElem_reverse, List.getD_eq_getElem?_getD, List.getElem?_eq_getElem (by omega)]
  simp only [hl] <;> rfl
theorem rk_tail2 (F2 : Call P w K mg base (L2.CX P w) 1 "_law_ways" ["_law_rooms", "_law_rest"] (spF 2 preWy fun ds => .ok (wyD ds))) (sm : ∃ o, K.lookup sysModules = some o) (B : Gls mg) {f : Addr} {cdv : Value} {A : Around} {outer : List Env} {s : Shared} {H : Hp} {E : XK} {Bs : Bas} {u p : Int} {ns : List Int} {L : List (Int × Int)} {ψ : Addr → PyData → List Sl → Prop}
    (c : Bod (cxOf (L2.CX P w) P w K mg base ["_law_unit", "_law_shares_here", "_law_people", "_law_ends_now", "_law_share", "_law_low", "_law_high", "_law_end", "_law_due", "_law_first", "_law_more", "_law_k", "_law_own"] "_law_reckoned" (defScope s_lreckoned) f cdv A outer s H E) 1) (ex : Exc Bs (cxOf (L2.CX P w) P w K mg base ["_law_unit", "_law_shares_here", "_law_people", "_law_ends_now", "_law_share", "_law_low", "_law_high", "_law_end", "_law_due", "_law_first", "_law_more", "_law_k", "_law_own"] "_law_reckoned" (defScope s_lreckoned) f cdv A outer s H E) ψ) (hn6 : ns.length = L.length) (hL2 : 2 ≤ L.length) (hL6 : L.length ≤ 6) (hb : ∀ x ∈ L, 0 ≤ x.1 ∧ x.2 ≤ p) (hp : 1 ≤ p ∧ p ≤ 1000) (hfb : fitB p L = true) :
    Gs Bs (cxOf (L2.CX P w) P w K mg base ["_law_unit", "_law_shares_here", "_law_people", "_law_ends_now", "_law_share", "_law_low", "_law_high", "_law_end", "_law_due", "_law_first", "_law_more", "_law_k", "_law_own"] "_law_reckoned" (defScope s_lreckoned) f cdv A outer s H E) ((defBody s_lreckoned).drop 3) [.d (.int u), .d (.tuple (intsD ns)), .d (.int p), .d (.list (L.map lstP)), .no, .d (.int (loS L)), .d (.int (hiS L)), .no, .no, .no, .no, .no, .no]
      { nx := fun _ => Out.ok (dueW p L) = .ok .none, rt := fun d _ => Out.ok (dueW p L) = .ok d } := by
  have nd := sc_lreckoned.nd
  obtain ⟨h1, h2, h3⟩ := fit_parts hfb
  refine gs_cons ?_
  repeat infer_instance
  ((with_reducible apply set_ld); (assumption); (assumption); (eq_refl); (eq_refl); (eq_refl); (eq_refl); (eq_refl); (eq_refl); (intro _; eq_refl))
  repeat infer_instance
  refine ⟨Nat.le_trans (show (L.map lstP).length ≤ 1000 by rw [List.length_map]; omega) (by decide), fun _ => true, fun i => (fun x : Int × Int => PyData.tuple [.int (mxx x.1 (p - hiS L + x.2)), .int (mn x.2 (p - loS L + x.1))]) (L.getD i (0, 0)), fun i hi B' => ?_, ?_⟩
  · have hi : i < L.length := by rw [List.length_map] at hi; exact hi
    have eN : nth (L.map lstP) i = lstP L[i] := nth_lst hi
    have eG : L.getD i (0, 0) = L[i] := getD_lt hi
    generalize L[i] = v at eN eG
    rw [eN]
    unfold lstP
    intro _ _ _ _ _
    repeat infer_instance
    exact ⟨by show (fun x : Int × Int => PyData.tuple [.int (mxx x.1 (p - hiS L + x.2)), .int (mn x.2 (p - loS L + x.1))]) v = (fun x : Int × Int => PyData.tuple [.int (mxx x.1 (p - hiS L + x.2)), .int (mn x.2 (p - loS L + x.1))]) (L.getD i (0, 0)); rw [eG], rfl⟩
  rw [show (L.map lstP).length = L.length from List.length_map _, fil_pg (g := (fun x : Int × Int => PyData.tuple [.int (mxx x.1 (p - hiS L + x.2)), .int (mn x.2 (p - loS L + x.1))]))]
  repeat infer_instance
  ((with_reducible apply gf_lk); (eq_refl); (assumption); (eq_refl); (eq_refl); (eq_refl); (intro _; eq_refl))
  repeat infer_instance
  refine ⟨Nat.le_trans (show (L.map lstP).length ≤ 1000 by rw [List.length_map]; omega) (by decide), fun _ => true, fun i => (fun x : Int × Int => PyData.int x.1) (L.getD i (0, 0)), fun i hi B' => ?_, ?_⟩
  · have hi : i < L.length := by rw [List.length_map] at hi; exact hi
    have eN : nth (L.map lstP) i = lstP L[i] := nth_lst hi
    have eG : L.getD i (0, 0) = L[i] := getD_lt hi
    generalize L[i] = v at eN eG
    rw [eN]
    unfold lstP
    repeat infer_instance
    exact ⟨by show (fun x : Int × Int => PyData.int x.1) v = (fun x : Int × Int => PyData.int x.1) (L.getD i (0, 0)); rw [eG], rfl⟩
  rw [show (L.map lstP).length = L.length from List.length_map _, fil_pg (g := (fun x : Int × Int => PyData.int x.1))]
  repeat infer_instance
  have eLen : ((intsD ns).length : Int) - 1 = (L.length : Int) - 1 := by rw [List.length_map, hn6]
  rw [eLen]
  have e0 : (L.map fun x : Int × Int => PyData.int x.1) = tblD L.length (Fi p L 0) := by
    refine List.ext_getElem (by rw [List.length_map, tbl_len]) fun i h1 h2 => ?_
    have hi : i < L.length := by rw [List.length_map] at h1; exact h1
    rw [tbl_get, List.getElem_map]
    unfold Fi
    rw [if_pos (by omega), getD_lt hi]
  rw [e0]
  refine ⟨_, _, _, L.length, rfl, ?_, fun i Γ => ∃ (a2 : Addr) (s7 s11 s12 : Sl), Γ = [.d (.int u), .d (.tuple (intsD ns)), .d (.int p), .d (.list (L.map lstP)), .no, .d (.int (loS L)), .d (.int (hiS L)), s7, .d (.list (L.map fun x : Int × Int => PyData.tuple [.int (mxx x.1 (p - hiS L + x.2)), .int (mn x.2 (p - loS L + x.1))])), .own a2 (tblD L.length (Fi p L i)), .d (.int (lf (p - loS L) L.reverse i)), s11, s12], ⟨_, _, _, _, by rw [lf_zero] <;> rfl⟩, fun _ _ _ _ => trivial, ?_, ?_⟩
  · have h := RgC.neg (i := (L.length : Int) - 1) (j := -1) (by omega) (by omega) (by decide) (by decide)
    rw [show ((L.length : Int) - 1 - -1).toNat = L.length by omega] at h
    exact h
  · rintro i Γ hi ⟨a2, s7, s11, s12, rfl⟩
    have hi2 : i < L.reverse.length := by rw [List.length_reverse]; exact hi
    obtain ⟨f1, f2⟩ := fl_step L.reverse (p - loS L) i hi2
    have eN : nth (L.map lstP) (L.length - 1 - i) = lstP L.reverse[i] := by
      rw [nth_lst (show L.length - 1 - i < L.length by omega), List.getElem_reverse]
    have eS := fi_step (p := p) hi f1
    have hk : (L.length : Int) - 1 + (i : Nat) * -1 = ((L.length - 1 - i : Nat) : Int) := by omega
    show GG _ _ _ (.int ((L.length : Int) - 1 + (i : Nat) * -1)) _ _
    rw [hk]
    have hf : Fi p L i (L.length - 1 - i) = L.reverse[i].1 := by
      unfold Fi
      rw [if_pos (by omega), getD_lt (show L.length - 1 - i < L.length by omega), List.getElem_reverse]
    have hK : L.length - 1 - i < L.length := by omega
    have hT : (tblD L.length (Fi p L i)).length ≤ 6 := by rw [tbl_len]; omega
    generalize L.reverse[i] = v at eN eS hf f2
    generalize lf (p - loS L) L.reverse i = lft at eS f2 ⊢
    repeat infer_instance
    refine ix_k (by omega) (by rw [List.length_map]; omega) ?_
    rw [Int.toNat_natCast, eN, show lstP v = .list [.int v.1, .int v.2] from rfl]
    repeat infer_instance
    refine ix_k (by omega) (by rw [List.length_map]; omega) ?_
    rw [Int.toNat_natCast, eN, show lstP v = .list [.int v.1, .int v.2] from rfl]
    repeat infer_instance
    refine tbl_ix (by omega) (by omega) ?_
    rw [Int.toNat_natCast, hf]
    repeat infer_instance
    refine ggs_putn rfl rfl rfl rfl rfl rfl (m := L.length - 1 - i) (ixN_k (by omega) (by rw [tbl_len]; omega)) ?_ (by decide) (by decide) (by decide) (by decide) (by intro _; rfl) (by rfl)
    repeat infer_instance
    repeat (with_reducible refine gs_nil ?_)
    refine ⟨a2, s7, .d (.int ((L.length - 1 - i : Nat) : Int)), .d (.int (mn lft (v.2 - v.1))), ?_⟩
    rw [f2, ← eS] <;> rfl
  · rintro Γ ⟨a2, s7, s11, s12, rfl⟩
    show Gs _ _ _ _ _
    refine gs_cons ?_
    repeat infer_instance
    ((with_reducible apply gf_lk); (eq_refl); (assumption); (eq_refl); (eq_refl); (eq_refl); (intro _; eq_refl))
    repeat infer_instance
    refine ⟨Nat.le_trans (show (L.map lstP).length ≤ 1000 by rw [List.length_map]; omega) (by decide), fun _ => true, fun i => (fun x : Int × Int => PyData.int (x.2 - x.1)) (L.getD i (0, 0)), fun i hi B' => ?_, ?_⟩
    · have hi : i < L.length := by rw [List.length_map] at hi; exact hi
      have eN : nth (L.map lstP) i = lstP L[i] := nth_lst hi
      have eG : L.getD i (0, 0) = L[i] := getD_lt hi
      generalize L[i] = v at eN eG
      rw [eN]
      unfold lstP
      repeat infer_instance
      exact ⟨by show (fun x : Int × Int => PyData.int (x.2 - x.1)) v = (fun x : Int × Int => PyData.int (x.2 - x.1)) (L.getD i (0, 0)); rw [eG], rfl⟩
    rw [show (L.map lstP).length = L.length from List.length_map _, fil_pg (g := (fun x : Int × Int => PyData.int (x.2 - x.1)))]
    repeat infer_instance
    rw [show (L.map fun x => PyData.int (x.2 - x.1)) = intsD (L.map fun x => x.2 - x.1) from List.map_map.symm]
    have hl0 : 0 ≤ loS L := (sum_ge fun n hn => by
      obtain ⟨x, hx, rfl⟩ := List.mem_map.mp hn
      exact (hb x hx).1).1
    refine ⟨⟨_, _, rfl, by rw [List.length_map]; exact hL6, fun n hn => ?_, by omega, by omega⟩, ?_⟩
    · obtain ⟨x, hx, rfl⟩ := List.mem_map.mp hn
      have b1 := hb x hx
      have b2 := h1 x hx
      omega
    show (Out.ok (.int (dF (asIs (intsD (L.map fun x => x.2 - x.1))) (p - loS L).toNat))).to _ _
    rw [asIs_ints]
    refine to_ok ?_
    repeat infer_instance
    rw [fi_end]
    show Out.ok (dueW p L) = Out.ok _
    unfold dueW rangesP firstP
    rw [hfb] <;> rfl
theorem fil_lw {L : List (Int × Int)} {P : Int × Int → Bool} : ((List.range L.length).filter fun i => P (L.getD i (0, 0))).map (fun i => lstP (L.getD i (0, 0))) = (L.filter P).map lstP := by
  have e : L = (List.range L.length).map fun i => L.getD i (0, 0) := by
    refine List.ext_getElem (by rw [List.length_map, List.length_range]) fun i h1 h2 => ?_
    rw [List.getElem_map, List.getElem_range, getD_lt h1]
  conv => rhs; rw [e, List.filter_map]
  rw [List.map_map]
  rfl
theorem fil_none {L : List (Int × Int)} : (!((L.filter fun x => decide (x.2 < x.1)).map lstP).isEmpty) = noneB L := by
  induction L with
  | nil => rfl
  | cons x L ih =>
    show _ = (decide (x.2 < x.1) || noneB L)
    by_cases h : x.2 < x.1
    · rw [show (x :: L).filter (fun x => decide (x.2 < x.1)) = x :: L.filter (fun x => decide (x.2 < x.1)) from List.filter_cons_of_pos (decide_eq_true h), decide_eq_true h] <;> rfl
    · rw [show (x :: L).filter (fun x => decide (x.2 < x.1)) = L.filter (fun x => decide (x.2 < x.1)) from List.filter_cons_of_neg (by rw [decide_eq_false h]; decide), decide_eq_false h, ih] <;> rfl
theorem rk_tail1 (F2 : Call P w K mg base (L2.CX P w) 1 "_law_ways" ["_law_rooms", "_law_rest"] (spF 2 preWy fun ds => .ok (wyD ds))) (sm : ∃ o, K.lookup sysModules = some o) (B : Gls mg) {f : Addr} {cdv : Value} {A : Around} {outer : List Env} {s : Shared} {H : Hp} {E : XK} {Bs : Bas} {u p : Int} {ns : List Int} {L : List (Int × Int)} {ψ : Addr → PyData → List Sl → Prop}
    (c : Bod (cxOf (L2.CX P w) P w K mg base ["_law_unit", "_law_shares_here", "_law_people", "_law_ends_now", "_law_share", "_law_low", "_law_high", "_law_end", "_law_due", "_law_first", "_law_more", "_law_k", "_law_own"] "_law_reckoned" (defScope s_lreckoned) f cdv A outer s H E) 1) (ex : Exc Bs (cxOf (L2.CX P w) P w K mg base ["_law_unit", "_law_shares_here", "_law_people", "_law_ends_now", "_law_share", "_law_low", "_law_high", "_law_end", "_law_due", "_law_first", "_law_more", "_law_k", "_law_own"] "_law_reckoned" (defScope s_lreckoned) f cdv A outer s H E) ψ) (hn6 : ns.length = L.length) (hL2 : 2 ≤ L.length) (hL6 : L.length ≤ 6) (hb : ∀ x ∈ L, 0 ≤ x.1 ∧ x.2 ≤ p) (hp : 1 ≤ p ∧ p ≤ 1000) :
    Gs Bs (cxOf (L2.CX P w) P w K mg base ["_law_unit", "_law_shares_here", "_law_people", "_law_ends_now", "_law_share", "_law_low", "_law_high", "_law_end", "_law_due", "_law_first", "_law_more", "_law_k", "_law_own"] "_law_reckoned" (defScope s_lreckoned) f cdv A outer s H E) ((defBody s_lreckoned).drop 2) [.d (.int u), .d (.tuple (intsD ns)), .d (.int p), .d (.list (L.map lstP)), .no, .d (.int (loS L)), .d (.int (hiS L)), .no, .no, .no, .no, .no, .no]
      { nx := fun _ => Out.ok (dueW p L) = .ok .none, rt := fun d _ => Out.ok (dueW p L) = .ok d } := by
  have nd := sc_lreckoned.nd
  have T := rk_tail2 F2 sm B (u := u) c ex hn6 hL2 hL6 hb hp
  refine gs_cons ?_
  repeat infer_instance
  ((with_reducible apply gf_lk); (eq_refl); (assumption); (eq_refl); (eq_refl); (eq_refl); (intro _; eq_refl))
  repeat infer_instance
  refine ⟨Nat.le_trans (show (L.map lstP).length ≤ 1000 by rw [List.length_map]; omega) (by decide), fun i => decide ((L.getD i (0, 0)).2 < (L.getD i (0, 0)).1), fun i => lstP (L.getD i (0, 0)), fun i hi B' => ?_, ?_⟩
  · have hi : i < L.length := by rw [List.length_map] at hi; exact hi
    have eN : nth (L.map lstP) i = lstP L[i] := nth_lst hi
    have eG : L.getD i (0, 0) = L[i] := getD_lt hi
    generalize L[i] = v at eN eG
    rw [eN]
    unfold lstP
    intro _ _ _ _ _
    repeat infer_instance
    refine ⟨by show decide (v.2 < v.1) = decide ((L.getD i (0, 0)).2 < (L.getD i (0, 0)).1); rw [eG], ?_⟩
    generalize decide (v.1 > v.2) = t
    cases t
    · repeat infer_instance
    · repeat infer_instance
      exact ⟨by show lstP v = lstP (L.getD i (0, 0)); rw [eG], rfl⟩
  rw [show (L.map lstP).length = L.length from List.length_map _, fil_lw (P := fun x => decide (x.2 < x.1))]
  repeat infer_instance
  rw [fil_none]
  cases hN : noneB L
  case true =>
    have hf : fitB p L = false := by unfold fitB; rw [hN] <;> rfl
    have hd : dueW p L = .list [.none, .int 0, .none] := by
      unfold dueW rangesP firstP
      rw [hf] <;> rfl
    rw [hd]
    repeat infer_instance
    exact rfl
  have hnone : fitB p L = false → dueW p L = .list [.none, .int 0, .none] := fun h => by
    unfold dueW rangesP firstP
    rw [h] <;> rfl
  repeat infer_instance
  by_cases h2 : loS L ≤ p
  · rw [decide_eq_true h2]
    repeat infer_instance
    by_cases h3 : p ≤ hiS L
    · rw [decide_eq_true h3]
      have hf : fitB p L = true := by unfold fitB; rw [hN, decide_eq_true h2, decide_eq_true h3] <;> rfl
      repeat infer_instance
      repeat (with_reducible refine gs_nil ?_)
      exact T hf
    · rw [decide_eq_false h3]
      rw [hnone (by unfold fitB; rw [hN, decide_eq_true h2, decide_eq_false h3] <;> rfl)]
      repeat infer_instance
      exact rfl
  · rw [decide_eq_false h2]
    rw [hnone (by unfold fitB; rw [hN, decide_eq_false h2] <;> rfl)]
    repeat infer_instance
    exact rfl
theorem ok_reckoned (F1 : Call P w K mg base (L2.CX P w) 1 "_law_ends" ["_law_unit", "_law_share", "_law_people"] (spF 3 preEn fun ds => .ok (enD ds))) (F2 : Call P w K mg base (L2.CX P w) 1 "_law_ways" ["_law_rooms", "_law_rest"] (spF 2 preWy fun ds => .ok (wyD ds))) {f : Addr} {fd : FuncData} (F : Fun K "_law_reckoned" "_law_reckoned" s_lreckoned f fd) (sm : ∃ o, K.lookup sysModules = some o) (B : Gls mg) :
    FnG P w K mg base (L2.CX P w) 2 f fd ["_law_unit", "_law_shares_here", "_law_people"] (spF 3 preRk fun ds => .ok (rkD ds)) := by
  refine fn_data F sc_lreckoned sm (by decide) _ _ fun cdv A outer s H E Bs ds hl hp c ex => ?_
  obtain ⟨u, ns, p, rfl, hu, hns, hp⟩ := hp
  have hu2 : 100 ≤ u ∧ u ≤ 1000 := by rcases hu with rfl | rfl <;> decide
  have h6 := hns.six
  have nd := sc_lreckoned.nd
  have e0 : rkD [.int u, .tuple (intsD ns), .int p] = dueW p (stL p u ns) := by
    show dueW p (stL p u (asIs (intsD ns))) = _
    rw [asIs_ints]
  rw [e0]
  refine gs_cons ?_
  repeat infer_instance
  ((with_reducible apply set_ld); (assumption); (assumption); (eq_refl); (eq_refl); (eq_refl); (eq_refl); (eq_refl); (eq_refl); (intro _; eq_refl))
  repeat infer_instance
  refine ⟨Nat.le_trans (show (intsD ns).length ≤ 1000 by rw [List.length_map]; omega) (by decide), fun _ => true, fun i => lstP ((fun s => (loI s p u, hiI s p u)) (asI (nth (intsD ns) i))), fun i hi B' => ?_, ?_⟩
  · have hi : i < ns.length := by rw [List.length_map] at hi; exact hi
    have eN := nth_int hi
    have hs := hns.ok _ (List.getElem_mem hi)
    generalize ns[i] = x at eN hs
    rw [eN]
    intro _ _ _ _ _
    repeat infer_instance
    refine ⟨⟨_, _, _, rfl, hu, ⟨hs.1, by omega⟩, ⟨hp.1, by omega⟩⟩, ?_⟩
    show (Out.ok (lstP (loI x p u, hiI x p u))).to _ _
    refine to_ok ?_
    exact ⟨by show lstP (loI x p u, hiI x p u) = lstP ((fun s => (loI s p u, hiI s p u)) (asI (nth (intsD ns) i))); rw [eN] <;> rfl, rfl⟩
  rw [fil_intsD fun s => lstP (loI s p u, hiI s p u), show ns.map (fun s => lstP (loI s p u, hiI s p u)) = (stL p u ns).map lstP from by unfold stL; rw [List.map_map] <;> rfl]
  have hL6 : (stL p u ns).length ≤ 6 := by unfold stL; rw [List.length_map]; exact hns.six
  have hL2 : 2 ≤ (stL p u ns).length := by unfold stL; rw [List.length_map]; exact hns.two
  have hn6 : ns.length = (stL p u ns).length := by unfold stL; rw [List.length_map]
  have hb := st_bd (u := u) (ns := ns) hp.1
  generalize stL p u ns = L at hL6 hL2 hb hn6 ⊢
  repeat infer_instance
  ((with_reducible apply gf_lk); (eq_refl); (assumption); (eq_refl); (eq_refl); (eq_refl); (intro _; eq_refl))
  repeat infer_instance
  refine ⟨Nat.le_trans (show (L.map lstP).length ≤ 1000 by rw [List.length_map]; omega) (by decide), fun _ => true, fun i => (fun x : Int × Int => PyData.int x.1) (L.getD i (0, 0)), fun i hi B' => ?_, ?_⟩
  · have hi : i < L.length := by rw [List.length_map] at hi; exact hi
    have eN : nth (L.map lstP) i = lstP L[i] := nth_lst hi
    have eG : L.getD i (0, 0) = L[i] := getD_lt hi
    generalize L[i] = v at eN eG
    rw [eN]
    unfold lstP
    repeat infer_instance
    exact ⟨by show (fun x : Int × Int => PyData.int x.1) v = (fun x : Int × Int => PyData.int x.1) (L.getD i (0, 0)); rw [eG], rfl⟩
  rw [show (L.map lstP).length = L.length from List.length_map _, fil_pg (g := (fun x : Int × Int => PyData.int x.1))]
  rw [show (L.map fun x => PyData.int x.1) = intsD (L.map fun x => x.1) from List.map_map.symm]
  refine sum_lst (ints_isI _) ?_
  rw [show (intsD (L.map fun x => x.1)).map asI = L.map fun x => x.1 from asIs_ints _]
  repeat infer_instance
  have eS1 : (L.map fun x => x.1).sum = loS L := rfl
  rw [eS1]
  ((with_reducible apply gf_lk); (eq_refl); (assumption); (eq_refl); (eq_refl); (eq_refl); (intro _; eq_refl))
  repeat infer_instance
  refine ⟨Nat.le_trans (show (L.map lstP).length ≤ 1000 by rw [List.length_map]; omega) (by decide), fun _ => true, fun i => (fun x : Int × Int => PyData.int x.2) (L.getD i (0, 0)), fun i hi B' => ?_, ?_⟩
  · have hi : i < L.length := by rw [List.length_map] at hi; exact hi
    have eN : nth (L.map lstP) i = lstP L[i] := nth_lst hi
    have eG : L.getD i (0, 0) = L[i] := getD_lt hi
    generalize L[i] = v at eN eG
    rw [eN]
    unfold lstP
    repeat infer_instance
    exact ⟨by show (fun x : Int × Int => PyData.int x.2) v = (fun x : Int × Int => PyData.int x.2) (L.getD i (0, 0)); rw [eG], rfl⟩
  rw [show (L.map lstP).length = L.length from List.length_map _, fil_pg (g := (fun x : Int × Int => PyData.int x.2))]
  rw [show (L.map fun x => PyData.int x.2) = intsD (L.map fun x => x.2) from List.map_map.symm]
  refine sum_lst (ints_isI _) ?_
  rw [show (intsD (L.map fun x => x.2)).map asI = L.map fun x => x.2 from asIs_ints _]
  repeat (first | ((with_reducible show Gs _ _ _ _ _); exact rk_tail1 F2 sm B c ex hn6 hL2 hL6 hb hp) | infer_instance)
end
end K70
namespace K70
open PySem PySem.Spec PyProof.Rows L2 Tc Px Py
local macro_rules | `(tactic| fail "x21G10") => `(tactic| first
  | ((with_reducible show G1 _ _ (Stmt.Assign [Expr.Name "_law_due" _] (Expr.List [] _) _) _ _); (with_reducible apply set_lc); (with_reducible assumption); (eq_refl); (eq_refl); rotate_left; (eq_refl); (eq_refl))
  )
local macro_rules | `(tactic| fail "x21G11") => `(tactic| first
  | ((with_reducible show G1 _ _ (Stmt.Assign [Expr.Tuple [Expr.Name _ _, Expr.Name _ _] _ _] (Expr.Tuple [Expr.BinOp (Expr.List _ _) Operator.Mult _ _, _] _ _) _) _ _); (with_reducible apply par_on); (with_reducible assumption); (assumption); (eq_refl); (eq_refl); (eq_refl); (eq_refl); (eq_refl); (eq_refl); (eq_refl); (eq_refl); (exact star_cons rfl); (exact star_cons rfl))
  )
local macro_rules | `(tactic| fail "x21G12") => `(tactic| first
  | ((with_reducible show G1 _ _ (Stmt.Expr (Expr.Call (Expr.Attribute (Expr.Name _ _) "append" _) [_] _ _) _) _ _); (with_reducible apply g1_append); (eq_refl); (eq_refl); (eq_refl); rotate_left; (decide); (decide); (eq_refl); (eq_refl); (eq_refl); (exact star_cons rfl); (eq_refl))
  )
local macro_rules | `(tactic| fail "x21G13") => `(tactic| first
  | ((with_reducible show G1 _ _ (Stmt.Assign [Expr.Tuple [Expr.Name _ _, Expr.Name _ _] _ _] (Expr.Tuple [Expr.List _ _, _] _ _) _) _ _); (with_reducible apply par_on); (with_reducible assumption); (assumption); (eq_refl); (eq_refl); (eq_refl); (eq_refl); (eq_refl); (eq_refl); (eq_refl); (eq_refl); (exact star_cons rfl); (exact star_cons rfl))
  )
local macro_rules | `(tactic| fail "x21G1") => `(tactic| first
  | ((with_reducible show G1 _ _ (Stmt.Assign [Expr.Name "_law_due" _] (Expr.List [] _) _) _ _); fail "x21G10")
  | ((with_reducible show G1 _ _ (Stmt.Assign [Expr.Tuple [Expr.Name _ _, Expr.Name _ _] _ _] (Expr.Tuple [Expr.BinOp (Expr.List _ _) Operator.Mult _ _, _] _ _) _) _ _); fail "x21G11")
  | ((with_reducible show G1 _ _ (Stmt.Expr (Expr.Call (Expr.Attribute (Expr.Name _ _) "append" _) [_] _ _) _) _ _); fail "x21G12")
  | ((with_reducible show G1 _ _ (Stmt.Assign [Expr.Tuple [Expr.Name _ _, Expr.Name _ _] _ _] (Expr.Tuple [Expr.List _ _, _] _ _) _) _ _); fail "x21G13")
  )
local macro_rules | `(tactic| fail "x21GT4") => `(tactic| first
  | ((with_reducible show GT _ _ (Expr.Compare _ [CmpOp.NotEq] [Expr.List [] _] _) _ _); (with_reducible apply gt_neL); (first | with_reducible assumption | exact Bod.toCxt (by with_reducible assumption) | exact Cxt.blk (Bod.toCxt (by with_reducible assumption)) _ _ _ _ _ _ | exact Cxt.blk (Cxt.blk (Bod.toCxt (by with_reducible assumption)) _ _ _ _ _ _) _ _ _ _ _ _))
  )
local macro_rules | `(tactic| infer_instance) => `(tactic| first
  | ((with_reducible show G1 _ _ _ _ _); fail "x21G1")
  | ((with_reducible show GQ _ _ false (Expr.Name _ _) _ _); (with_reducible refine gq_of ?_))
  | ((with_reducible show GT _ _ (Expr.Compare _ [CmpOp.NotEq] [Expr.List [] _] _) _ _); fail "x21GT4")
  | ((with_reducible show ∃ d1 d2 d3, _ = [d1, d2, d3] ∧ _); refine ⟨_, _, _, rfl, rfl, rfl, rfl, ?_⟩)
  | ((with_reducible show ∀ B0 : Bas, GE B0 _ _ _ _); intro _)
  | ((with_reducible show ∃ ds0, _ = (if false = true then PyData.list ds0 else PyData.tuple ds0) ∧ _); refine ⟨_, rfl, ?_⟩)
  )
section
variable {P : Program} {w : World} {K : PySem.W.Frag} {mg : Str → Option Value} {base : Heap}
theorem sc_lfound : FnScope ["_law_unit", "_law_shares_here", "_law_people", "_law_due", "_law_own", "_law_one", "_law_sides", "_law_k", "_law_side"] ["_law_unit", "_law_shares_here", "_law_people"] (defScope s_lfound) := ⟨rfl, rfl, rfl, by decide +kernel, rfl, by decide +kernel, by decide +kernel⟩
theorem shaped_ints (ns : List Int) : SeqAt.shaped (.tuple (intsD ns)) = true := by
  have k : PyData.canLayAll0 (intsD ns) = true ∧ PyData.depthAll (intsD ns) = 0 := by
    induction ns with
    | nil => exact ⟨rfl, rfl⟩
    | cons n ns ih =>
      refine ⟨?_, ?_⟩
      · show (true && PyData.canLayAll0 (intsD ns)) = true
        rw [ih.1] <;> rfl
      · show max 0 (PyData.depthAll (intsD ns)) = 0
        rw [ih.2] <;> rfl
  show (PyData.canLayAll0 (intsD ns) && decide (PyData.depthAll (intsD ns) + 1 ≤ 64)) = true
  rw [k.1, k.2] <;> rfl
theorem eqv_ints : ∀ a b : List Int, PyData.eqv (.tuple (intsD a)) (.tuple (intsD b)) = decide (a = b)
  | [], [] => rfl
  | [], _ :: _ => rfl
  | _ :: _, [] => rfl
  | x :: a, y :: b => by
    have ih := eqv_ints a b
    show (PyData.eqv (.int x) (.int y) && PyData.eqv (.tuple (intsD a)) (.tuple (intsD b))) = _
    rw [ih, eqv_int]
    by_cases h : x = y
    · subst h
      by_cases h2 : a = b
      · subst h2
        rw [decide_eq_true rfl, decide_eq_true rfl, decide_eq_true rfl] <;> rfl
      · rw [decide_eq_true rfl, decide_eq_false h2, decide_eq_false fun z => h2 (List.cons.inj z).2] <;> rfl
    · rw [decide_eq_false h, decide_eq_false fun z => h (List.cons.inj z).1] <;> rfl
def preFo (ds : List PyData) : Prop := ∃ (u : Int) (ns : List Int) (p : Int), ds = [.int u, .tuple (intsD ns), .int p] ∧ unit u ∧ Shs u ns ∧ few ns.length p
def sideL (D : List (List Int)) (k : Nat) : List Int := D.map fun l => l.getD k 0
theorem atD_hd (h : PyData) (t : List PyData) : atD (h :: t) 0 = some h := by
  unfold atD ixN
  rw [if_pos (by omega), if_pos (by rw [List.length_cons]; omega)] <;> rfl
theorem fil_side {E : List (List Int)} {k : Nat} : ((List.range E.length).filter fun _ => true).map (fun i => PyData.int ((E.getD i []).getD k 0)) = intsD (sideL E k) := by
  rw [List.filter_eq_self.mpr fun _ _ => rfl]
  unfold sideL intsD
  rw [List.map_map]
  refine List.ext_getElem (by rw [List.length_map, List.length_range, List.length_map]) fun i h1 h2 => ?_
  have hi : i < E.length := by rw [List.length_map] at h2; exact h2
  have eG : E.getD i [] = E[i] := by rw [List.getD_eq_getElem?_getD, List.getElem?_eq_getElem hi] <;> rfl
  rw [List.getElem_map, List.getElem_range, List.getElem_map, eG] <;> rfl
def foD : List PyData → PyData
  | [.int u, .tuple xs, .int p] => dueO u p (asIs xs)
  | _ => .none
/-- what each count can be among the counts that are due -/
def Sides : Prop := ∀ {u p : Int} {ns : List Int}, 0 < u → 0 < p → 0 < ns.length → fitB p (stL p u ns) = true → ∀ k, k < ns.length → ∀ v, v ∈ sideL (dueL u ns p) k ↔ mxx ((stL p u ns).getD k (0, 0)).1 (p - hiS (stL p u ns) + ((stL p u ns).getD k (0, 0)).2) ≤ v ∧ v ≤ mn ((stL p u ns).getD k (0, 0)).2 (p - loS (stL p u ns) + ((stL p u ns).getD k (0, 0)).1)
/-- how many counts are due -/
def Counts : Prop := ∀ {u p : Int} {ns : List Int}, 0 < u → 0 < p → 2 ≤ ns.length → ((dueL u ns p).length : Int) = numP p (stL p u ns)
theorem shaped_tups (D : List (List Int)) : SeqAt.shaped (.list (D.map tupD)) = true := by
  have k : PyData.canLayAll0 (D.map tupD) = true ∧ PyData.depthAll (D.map tupD) ≤ 1 := by
    induction D with
    | nil => exact ⟨rfl, Nat.zero_le _⟩
    | cons l D ih =>
      have h := shaped_ints l
      have h2 : PyData.canLayAll0 (intsD l) = true ∧ PyData.depthAll (intsD l) = 0 := by
        clear ih h
        induction l with
        | nil => exact ⟨rfl, rfl⟩
        | cons n ns ih =>
          refine ⟨?_, ?_⟩
          · show (true && PyData.canLayAll0 (intsD ns)) = true
            rw [ih.1] <;> rfl
          · show max 0 (PyData.depthAll (intsD ns)) = 0
            rw [ih.2] <;> rfl
      refine ⟨?_, ?_⟩
      · show (PyData.canLayAll0 (intsD l) && PyData.canLayAll0 (D.map tupD)) = true
        rw [h2.1, ih.1] <;> rfl
      · show max (PyData.depthAll (intsD l) + 1) (PyData.depthAll (D.map tupD)) ≤ 1
        rw [h2.2]
        exact Nat.max_le.mpr ⟨Nat.le_refl 1, ih.2⟩
  show (PyData.canLayAll0 (D.map tupD) && decide (PyData.depthAll (D.map tupD) + 1 ≤ 64)) = true
  rw [k.1, decide_eq_true (by have := k.2; omega)] <;> rfl
theorem ok_found (HS : Sides) (HN : Counts) (F1 : Call P w K mg base (L2.CX P w) 1 "_law_near" ["_law_unit", "_law_one", "_law_people"] (spF 3 preNear fun ds => .ok (nearLD ds))) (F2 : Call P w K mg base (L2.CX P w) 1 "_law_tried" ["_law_many", "_law_people"] (spF 2 preTr fun ds => .ok (trD ds))) {f : Addr} {fd : FuncData} (F : Fun K "_law_found" "_law_found" s_lfound f fd) (sm : ∃ o, K.lookup sysModules = some o) (B : Gls mg) :
    FnG P w K mg base (L2.CX P w) 2 f fd ["_law_unit", "_law_shares_here", "_law_people"] (spF 3 preFo fun ds => .ok (foD ds)) := by
  refine fn_data F sc_lfound sm (by decide) _ _ fun cdv A outer s H E Bs ds hl hp c ex => ?_
  obtain ⟨u, ns, p, rfl, hu, hns, hf⟩ := hp
  have hu2 : 100 ≤ u ∧ u ≤ 1000 := by rcases hu with rfl | rfl <;> decide
  have h6 := hns.six
  have h2 := hns.two
  have p0 : 1 ≤ p := hf.1
  have p1 : p ≤ 300 := by have := hf.2; omega
  have nd := sc_lfound.nd
  have e0 : foD [.int u, .tuple (intsD ns), .int p] = dueO u p ns := by
    show dueO u p (asIs (intsD ns)) = _
    rw [asIs_ints]
  rw [e0]
  refine gs_cons ?_
  repeat infer_instance
  refine ⟨⟨_, p, rfl, by rw [show ((intsD ns).length : Int) = ns.length from by rw [List.length_map]]; exact hf⟩, ?_⟩
  have eT : trD [.int ((intsD ns).length : Int), .int p] = .list ((allT ns.length p).map tupD) := by
    show PyData.list ((allT ((intsD ns).length : Int).toNat p).map tupD) = _
    rw [List.length_map] <;> rfl
  rw [eT]
  have hA : ∀ l ∈ allT ns.length p, l.length = ns.length ∧ (∀ n ∈ l, 0 ≤ n) ∧ l.sum = p := fun l hl => (mem_all (by omega) (by omega)).mp hl
  have hAl : (allT ns.length p).length ≤ 3125 := by unfold allT; rw [List.length_map]; exact (few_len hf (by omega)).1
  have hD : dueL u ns p = (allT ns.length p).filter fun l => decide (soL u l = ns) := rfl
  have hH := due_head (u := u) (p := p) (ns := ns) (by omega) (by omega) (by omega)
  have hS := HS (u := u) (p := p) (ns := ns) (by omega) (by omega) (by omega)
  have hN := HN (u := u) (p := p) (ns := ns) (by omega) (by omega) (by omega)
  rw [hD] at hH hS hN
  clear hD
  generalize allT ns.length p = T at hA hAl hH hS hN ⊢
  refine to_ok ?_
  repeat infer_instance
  refine ⟨fun i Γ => ∃ (a2 : Addr) (s4 : Sl), Γ = [.d (.int u), .d (.tuple (intsD ns)), .d (.int p), .own a2 (((T.take i).filter fun l => decide (soL u l = ns)).map tupD), s4, .no, .no, .no, .no], ⟨_, _, rfl⟩, fun _ _ _ _ => trivial, ?_, ?_⟩
  · rintro i Γ hi ⟨a2, s4, rfl⟩
    have hi : i < T.length := by rw [List.length_map] at hi; exact hi
    obtain ⟨l1, l2, l3⟩ := hA _ (List.getElem_mem hi)
    rw [nth_map hi]
    have eS : (T.take (i + 1)).filter (fun l => decide (soL u l = ns)) = (T.take i).filter (fun l => decide (soL u l = ns)) ++ if soL u T[i] = ns then [T[i]] else [] := by
      rw [List.take_succ_eq_append_getElem hi, List.filter_append]
      congr 1
      by_cases h : soL u T[i] = ns
      · rw [if_pos h]
        exact List.filter_cons_of_pos (decide_eq_true h)
      · rw [if_neg h]
        exact List.filter_cons_of_neg (by rw [decide_eq_false h]; decide)
    have hpl : ((T.take i).filter fun l => decide (soL u l = ns)).length ≤ 3125 := Nat.le_trans (List.length_filter_le _ _) (by rw [List.length_take]; omega)
    generalize (T.take i).filter (fun l => decide (soL u l = ns)) = pre at eS hpl ⊢
    generalize T[i] = l at l1 l2 l3 eS ⊢
    rw [show tupD l = .tuple (intsD l) from rfl]
    repeat infer_instance
    ((with_reducible apply gf_lk); (eq_refl); (assumption); (eq_refl); (eq_refl); (eq_refl); (intro _; eq_refl))
    repeat infer_instance
    refine ⟨Nat.le_trans (show (intsD l).length ≤ 1000 by rw [List.length_map]; omega) (by decide), fun _ => true, fun i => .int (nearI (u * asI (nth (intsD l) i)) p), fun j hj B' => ?_, ?_⟩
    · have hj : j < l.length := by rw [List.length_map] at hj; exact hj
      have eN := nth_int hj
      generalize l[j] = x at eN
      show Blk _ _ fun Y => GC B' Y _ _ (nth (intsD l) j) _ _
      rw [eN]
      intro _ _ _ _ _
      repeat infer_instance
      refine ⟨⟨_, _, _, rfl, hu, by omega, Int.lt_of_le_of_lt p1 (by decide)⟩, ?_⟩
      show (Out.ok (.int (nearI (u * x) p))).to _ _
      refine to_ok ?_
      exact ⟨by show PyData.int (nearI (u * x) p) = .int (nearI (u * asI (nth (intsD l) j)) p); rw [eN] <;> rfl, rfl⟩
    rw [fil_ints fun n => nearI (u * n) p]
    have eL : l.map (fun n => nearI (u * n) p) = soL u l := by unfold soL; rw [l3]
    rw [eL]
    repeat infer_instance
    refine ⟨.inr ⟨shaped_ints _, shaped_ints _⟩, ?_⟩
    rw [eqv_ints]
    by_cases h : soL u l = ns
    · rw [decide_eq_true h]
      rw [if_pos h] at eS
      repeat infer_instance
      refine ⟨Nat.lt_of_le_of_lt (show (pre.map tupD).length ≤ 3125 by rw [List.length_map]; exact hpl) (by decide), ?_⟩
      repeat (with_reducible refine gs_nil ?_)
      refine ⟨a2, .d (.tuple (intsD l)), ?_⟩
      rw [eS, List.map_append] <;> rfl
    · rw [decide_eq_false h]
      rw [if_neg h, List.append_nil] at eS
      repeat infer_instance
      repeat (with_reducible refine gs_nil ?_)
      refine ⟨a2, .d (.tuple (intsD l)), ?_⟩
      rw [eS] <;> rfl
  · rintro Γ ⟨a2, s4, rfl⟩
    rw [show (T.map tupD).length = T.length from List.length_map _, List.take_length]
    have hDm : ∀ l ∈ T.filter (fun l => decide (soL u l = ns)), l.length = ns.length ∧ (∀ n ∈ l, 0 ≤ n) ∧ l.sum = p := fun l hl => hA l (List.mem_filter.mp hl).1
    have hDl : (T.filter fun l => decide (soL u l = ns)).length ≤ 3125 := Nat.le_trans (List.length_filter_le _ _) hAl
    generalize T.filter (fun l => decide (soL u l = ns)) = D at hDm hDl hH hS hN ⊢
    show Gs _ _ _ _ _
    refine gs_clr [4] ?_
    show Gs _ _ _ [.d (.int u), .d (.tuple (intsD ns)), .d (.int p), .own a2 (D.map tupD), .no, .no, .no, .no, .no] _
    refine gs_cons ?_
    repeat infer_instance
    refine ⟨.inr ⟨shaped_tups _, by decide⟩, ?_⟩
    cases D with
    | nil =>
      have hB : fitB p (stL p u ns) = false := by
        cases h : fitB p (stL p u ns)
        · rfl
        · rw [h, if_pos rfl] at hH
          cases hH
      rw [show dueO u p ns = .list [.none, .int 0, .none] from by
        unfold dueO rangesP numP firstP
        rw [hB] <;> rfl]
      show if true = true then _ else _
      repeat infer_instance
      exact rfl
    | cons d0 D =>
      have hB : fitB p (stL p u ns) = true := by
        cases h : fitB p (stL p u ns)
        · rw [h, if_neg (by decide)] at hH
          cases hH
        · rfl
      have hS := hS hB
      show if false = true then _ else _
      repeat infer_instance
      repeat (with_reducible refine gs_nil ?_)
      show Gs _ _ _ _ _
      refine gs_cons ?_
      repeat infer_instance
      ((with_reducible apply set_ld); (assumption); (assumption); (eq_refl); (eq_refl); (eq_refl); (eq_refl); (eq_refl); (eq_refl); (intro _; eq_refl))
      repeat infer_instance
      have eK : (((intsD ns).length : Nat) : Int).toNat = ns.length := by rw [List.length_map] <;> rfl
      refine ⟨by rw [List.length_map]; omega, by rw [List.length_map]; omega, trivial, Nat.le_trans (show _ ≤ 6 by rw [eK]; exact h6) (by decide), fun _ => true, fun k => .list (intsD (sideL (d0 :: D) k)), fun k hk B' => ?_, ?_⟩
      · rw [eK] at hk
        intro _ _ _ _ _
        repeat infer_instance
        ((with_reducible apply gf_lk); (eq_refl); (assumption); (eq_refl); (eq_refl); (eq_refl); (intro _; eq_refl))
        repeat infer_instance
        refine ⟨Nat.le_trans (show ((d0 :: D).map tupD).length ≤ 3125 by rw [List.length_map]; exact hDl) (by decide), fun _ => true, fun i => .int (((d0 :: D).getD i []).getD k 0), fun i hi B2 => ?_, ?_⟩
        · have hi : i < (d0 :: D).length := by rw [List.length_map] at hi; exact hi
          have hl := (hDm _ (List.getElem_mem hi)).1
          have eG : (d0 :: D).getD i [] = (d0 :: D)[i] := by rw [List.getD_eq_getElem?_getD, List.getElem?_eq_getElem hi] <;> rfl
          have eN : nth ((d0 :: D).map tupD) i = .tuple (intsD (d0 :: D)[i]) := nth_map hi
          generalize (d0 :: D)[i] = l at hl eG eN
          show Blk _ _ fun Y => GC B2 Y _ _ (nth ((d0 :: D).map tupD) i) _ _
          rw [eN]
          intro _ _ _ _ _
          repeat infer_instance
          show IxD (.tuple (intsD l)) (.int (0 + (k : Int))) _
          obtain ⟨d, hd, hd2⟩ := ix_k (xs := intsD l) (i := 0 + (k : Int)) (k := fun d => d = .int l[k]) (by omega) (by rw [List.length_map]; omega) (by rw [show (0 + (k : Int)).toNat = k by omega, nth_int (show k < l.length by omega)])
          subst hd2
          refine ⟨_, hd, ?_⟩
          exact ⟨by show PyData.int l[k] = .int (((d0 :: D).getD i []).getD k 0); rw [eG, List.getD_eq_getElem?_getD, List.getElem?_eq_getElem (show k < l.length by omega)] <;> rfl, rfl⟩
        rw [List.length_map, fil_side]
        repeat infer_instance
      have eF : ((List.range (((intsD ns).length : Nat) : Int).toNat).filter fun _ => true).map (fun k => PyData.list (intsD (sideL (d0 :: D) k))) = (List.range ns.length).map fun k => .list (intsD (sideL (d0 :: D) k)) := by
        rw [eK, List.filter_eq_self.mpr fun _ _ => rfl]
      rw [eF]
      repeat infer_instance
      ((with_reducible apply gf_lk); (eq_refl); (assumption); (eq_refl); (eq_refl); (eq_refl); (intro _; eq_refl))
      repeat infer_instance
      have hL : (stL p u ns).length = ns.length := List.length_map _
      refine ⟨Nat.le_trans (show _ ≤ 6 by rw [List.length_map, List.length_range]; exact h6) (by decide), fun _ => true, fun k => (fun x : Int × Int => PyData.tuple [.int (mxx x.1 (p - hiS (stL p u ns) + x.2)), .int (mn x.2 (p - loS (stL p u ns) + x.1))]) ((stL p u ns).getD k (0, 0)), fun k hk B' => ?_, ?_⟩
      · have hk : k < ns.length := by rw [List.length_map, List.length_range] at hk; exact hk
        have eN : nth ((List.range ns.length).map fun k => PyData.list (intsD (sideL (d0 :: D) k))) k = .list (intsD (sideL (d0 :: D) k)) := by
          rw [nth_map (by rw [List.length_range]; exact hk), List.getElem_range]
        have hv := hS k hk
        have hpos : 0 < (sideL (d0 :: D) k).length := Nat.succ_pos _
        generalize hx : (stL p u ns).getD k (0, 0) = x at hv
        generalize sideL (d0 :: D) k = sd at eN hv hpos
        show Blk _ _ fun Y => GC B' Y _ _ (nth ((List.range ns.length).map fun k => PyData.list (intsD (sideL (d0 :: D) k))) k) _ _
        rw [eN]
        intro _ _ _ _ _
        repeat infer_instance
        refine ⟨sd, rfl, hpos, fun a ha la => ?_⟩
        repeat infer_instance
        refine ⟨sd, .inl rfl, hpos, fun b hb lb => ?_⟩
        repeat infer_instance
        have a1 := (hv a).mp ha
        have b1 := (hv b).mp hb
        have a2 := la _ ((hv (mxx x.1 (p - hiS (stL p u ns) + x.2))).mpr ⟨Int.le_refl _, by omega⟩)
        have b2 := lb _ ((hv (mn x.2 (p - loS (stL p u ns) + x.1))).mpr ⟨by omega, Int.le_refl _⟩)
        have ea : a = mxx x.1 (p - hiS (stL p u ns) + x.2) := by omega
        have eb : b = mn x.2 (p - loS (stL p u ns) + x.1) := by omega
        exact ⟨by show PyData.tuple [.int a, .int b] = (fun x : Int × Int => PyData.tuple [.int (mxx x.1 (p - hiS (stL p u ns) + x.2)), .int (mn x.2 (p - loS (stL p u ns) + x.1))]) ((stL p u ns).getD k (0, 0)); rw [hx, ea, eb], rfl⟩
      have eR : ((List.range ns.length).map fun k => PyData.list (intsD (sideL (d0 :: D) k))).length = (stL p u ns).length := by rw [List.length_map, List.length_range, hL]
      rw [eR, fil_pg (g := fun x : Int × Int => PyData.tuple [.int (mxx x.1 (p - hiS (stL p u ns) + x.2)), .int (mn x.2 (p - loS (stL p u ns) + x.1))])]
      repeat infer_instance
      refine ⟨_, atD_hd _ _, ?_⟩
      repeat infer_instance
      show Out.ok (dueO u p ns) = Out.ok _
      have hn2 : numP p (stL p u ns) = (((d0 :: D).map tupD).length : Nat) := by rw [List.length_map]; exact hN.symm
      have hF : firstL p (stL p u ns) = d0 := by
        rw [hB, if_pos rfl] at hH
        exact (Option.some.inj hH).symm
      unfold dueO
      rw [hn2]
      unfold rangesP firstP
      rw [hB, if_pos rfl, if_pos rfl, hF] <;> rfl
end
end K70
namespace K70
open PySem PySem.Spec PyProof.Rows L2 Tc Px Py
local macro_rules | `(tactic| fail "x22G10") => `(tactic| first
  | ((with_reducible show G1 _ _ (Stmt.Assign [Expr.Tuple [Expr.Name _ _, Expr.Name _ _] _ _] (Expr.Tuple [Expr.BinOp (Expr.List _ _) Operator.Mult _ _, _] _ _) _) _ _); (with_reducible apply par_on); (with_reducible assumption); (assumption); (eq_refl); (eq_refl); (eq_refl); (eq_refl); (eq_refl); (eq_refl); (eq_refl); (eq_refl); (exact star_cons rfl); (exact star_cons rfl))
  )
local macro_rules | `(tactic| fail "x22G11") => `(tactic| first
  | ((with_reducible show G1 _ _ (Stmt.Expr (Expr.Call (Expr.Attribute (Expr.Name _ _) "append" _) [_] _ _) _) _ _); (with_reducible apply g1_append); (eq_refl); (eq_refl); (eq_refl); rotate_left; (decide); (decide); (eq_refl); (eq_refl); (eq_refl); (exact star_cons rfl); (eq_refl))
  )
local macro_rules | `(tactic| fail "x22GT2") => `(tactic| first
  | ((with_reducible show GT _ _ (Expr.Compare _ [CmpOp.NotEq] [Expr.List [] _] _) _ _); (with_reducible apply gt_neL); (first | with_reducible assumption | exact Bod.toCxt (by with_reducible assumption) | exact Cxt.blk (Bod.toCxt (by with_reducible assumption)) _ _ _ _ _ _ | exact Cxt.blk (Cxt.blk (Bod.toCxt (by with_reducible assumption)) _ _ _ _ _ _) _ _ _ _ _ _))
  )
local macro_rules | `(tactic| infer_instance) => `(tactic| first
  | ((with_reducible show G1 _ _ (Stmt.Assign [Expr.Tuple [Expr.Name _ _, Expr.Name _ _] _ _] (Expr.Tuple [Expr.BinOp (Expr.List _ _) Operator.Mult _ _, _] _ _) _) _ _); fail "x22G10")
  | ((with_reducible show G1 _ _ (Stmt.Expr (Expr.Call (Expr.Attribute (Expr.Name _ _) "append" _) [_] _ _) _) _ _); fail "x22G11")
  | ((with_reducible show GQ _ _ false (Expr.Name _ _) _ _); (with_reducible refine gq_of ?_))
  | ((with_reducible show GT _ _ (Expr.Compare _ [CmpOp.NotEq] [Expr.List [] _] _) _ _); fail "x22GT2")
  | ((with_reducible show ∃ d1 d2 d3, _ = [d1, d2, d3] ∧ _); refine ⟨_, _, _, rfl, rfl, rfl, rfl, ?_⟩)
  | ((with_reducible show ∀ B0 : Bas, GE B0 _ _ _ _); intro _)
  | ((with_reducible show ∃ ds0, _ = (if false = true then PyData.list ds0 else PyData.tuple ds0) ∧ _); refine ⟨_, rfl, ?_⟩)
  )
section
variable {P : Program} {w : World} {K : PySem.W.Frag} {mg : Str → Option Value} {base : Heap}
theorem sc_lright : FnScope ["_law_well_here", "_law_turn", "_law_unit", "_law_many", "_law_top", "_law_people", "_law_shares_here", "_law_due"] ["_law_well_here"] (defScope s_lright) := ⟨rfl, rfl, rfl, by decide +kernel, rfl, by decide +kernel, by decide +kernel⟩
def RTrue (_ _ : List PyData) (o : Out) (ps' : List PyData) : Prop := Well ps' ∧ o = .ok (.bool true)
/-- the ways reckoned are the number told -/
def Ways : Prop := ∀ {u p : Int} {ns : List Int}, 0 < u → 0 < p → 2 ≤ ns.length → dueW p (stL p u ns) = dueO u p ns
/-- the number is no great one -/
def Bound : Prop := ∀ {u p : Int} {ns : List Int}, unit u → 1 ≤ p ∧ p ≤ 1000 → Shs u ns → 0 ≤ numP p (stL p u ns) ∧ numP p (stL p u ns) < 10 ^ 19
theorem ok_right (HW : Ways) (HB : Bound) (F1 : Call P w K mg base (L2.CX P w) 1 "_law_draw" ["_law_well_here", "_law_top"] (spP 1 preDraw RDraw)) (F2 : Call P w K mg base (L2.CX P w) 2 "_law_of" ["_law_well_here", "_law_menu"] (spP 1 preOf ROf)) (F3 : Call P w K mg base (L2.CX P w) 3 "_law_shares" ["_law_well_here", "_law_unit", "_law_many", "_law_people"] (spP 3 preSh RSh)) (F4 : Call P w K mg base (L2.CX P w) 2 "_law_found" ["_law_unit", "_law_shares_here", "_law_people"] (spF 3 preFo fun ds => .ok (foD ds))) (F5 : Call P w K mg base (L2.CX P w) 2 "_law_reckoned" ["_law_unit", "_law_shares_here", "_law_people"] (spF 3 preRk fun ds => .ok (rkD ds))) (F6 : Call P w K mg base (L2.CX P w) 7 "_law_told_right" ["_law_unit", "_law_shares_here", "_law_people", "_law_due"] (spF 4 preTo fun _ => .ok (.bool true))) {f : Addr} {fd : FuncData} (F : Fun K "_law_right" "_law_right" s_lright f fd) (sm : ∃ o, K.lookup sysModules = some o) (B : Gls mg) :
    FnG P w K mg base (L2.CX P w) 8 f fd ["_law_well_here"] (spP 0 (fun ps _ => Well ps) RTrue) := by
  refine fn_pail F sc_lright sm rfl _ _ fun cdv A outer s H E Bs ad ms ds hl hw c ex => ?_
  have nd := sc_lright.nd
  obtain rfl : ds = [] := List.eq_nil_of_length_eq_zero hl
  refine gs_cons ?_
  repeat infer_instance
  refine ⟨by decide, by decide, fun i Γ => ∃ (ms : List PyData) (s1 s2 s3 s4 s5 s6 s7 : Sl), Γ = [.own ad ms, s1, s2, s3, s4, s5, s6, s7] ∧ Well ms, ⟨ms, _, _, _, _, _, _, _, rfl, hw⟩, fun _ _ _ _ => trivial, ?_, ?_⟩
  · clear hw
    rintro i Γ hi ⟨ms, s1, s2, s3, s4, s5, s6, s7, rfl, hw⟩
    repeat infer_instance
    refine ⟨⟨hw, _, rfl, by show 0 < 3; decide, by show 3 < 2 ^ 30; decide⟩, fun o ms1 hR => ?_⟩
    clear hw
    obtain ⟨hw, xs, d, e, hd, rfl⟩ := hR
    cases e
    obtain ⟨u, rfl, hu⟩ : ∃ u : Int, d = .int u ∧ unit u := by
      simp only [List.mem_cons, List.not_mem_nil, or_false] at hd
      rcases hd with rfl | rfl | rfl
      · exact ⟨_, rfl, .inl rfl⟩
      · exact ⟨_, rfl, .inl rfl⟩
      · exact ⟨_, rfl, .inr rfl⟩
    clear hd
    have hu2 : 100 ≤ u ∧ u ≤ 1000 := by rcases hu with rfl | rfl <;> decide
    refine to_ok ?_
    repeat infer_instance
    refine ⟨⟨hw, _, rfl, by first | decide | omega, by first | decide | omega⟩, fun o ms1 hR => ?_⟩
    clear hw
    obtain ⟨hw, m, top, e, rfl, m0, m1⟩ := hR
    cases e
    refine to_ok ?_
    repeat infer_instance
    by_cases h : 0 + (i : Int) < 2
    · rw [decide_eq_true h]
      repeat infer_instance
      obtain ⟨top, hT, t0, t1, hF⟩ : ∃ top : Int, atD [PyData.int 300, .int 12, .int 7, .int 5, .int 4] (2 + m - 2) = some (.int top) ∧ 1 ≤ top ∧ top ≤ 1000 ∧ ∀ p, 1 ≤ p → p ≤ top → few (2 + m) p := by
        have : m = 0 ∨ m = 1 ∨ m = 2 ∨ m = 3 ∨ m = 4 := by omega
        rcases this with rfl | rfl | rfl | rfl | rfl
        · exact ⟨300, rfl, by decide, by decide, fun p a b => ⟨a, .inl ⟨rfl, b⟩⟩⟩
        · exact ⟨12, rfl, by decide, by decide, fun p a b => ⟨a, .inr (.inl ⟨rfl, b⟩)⟩⟩
        · exact ⟨7, rfl, by decide, by decide, fun p a b => ⟨a, .inr (.inr (.inl ⟨rfl, b⟩))⟩⟩
        · exact ⟨5, rfl, by decide, by decide, fun p a b => ⟨a, .inr (.inr (.inr (.inl ⟨rfl, b⟩)))⟩⟩
        · exact ⟨4, rfl, by decide, by decide, fun p a b => ⟨a, .inr (.inr (.inr (.inr (⟨rfl, b⟩))))⟩⟩
      refine ⟨_, hT, ?_⟩
      repeat infer_instance
      clear hT
      refine ⟨⟨hw, _, rfl, by first | decide | omega, by first | decide | omega⟩, fun o ms1 hR => ?_⟩
      clear hw
      obtain ⟨hw, pe, top, e, rfl, pe0, pe1⟩ := hR
      cases e
      refine to_ok ?_
      repeat infer_instance
      refine ⟨⟨hw, u, 2 + m, 1 + pe, rfl, hu, by omega, by omega, by omega, by omega⟩, fun o ms2 hR => ?_⟩
      clear hw
      obtain ⟨hw, u', m', p', ns, e, rfl, hl2, hS⟩ := hR
      cases e
      refine to_ok ?_
      repeat infer_instance
      refine ⟨⟨hw, _, rfl, by first | decide | omega, by first | decide | omega⟩, fun o ms1 hR => ?_⟩
      clear hw
      obtain ⟨hw, q, top, e, rfl, q0, q1⟩ := hR
      cases e
      refine to_ok ?_
      repeat infer_instance
      rw [eqv_int]
      generalize decide (q = 0) = tq
      cases tq
      · repeat infer_instance
        repeat (with_reducible refine gs_nil ?_)
        show Gs _ _ _ _ _
        refine gs_cons ?_
        repeat infer_instance
        rw [decide_eq_true h]
        repeat infer_instance
        refine ⟨⟨_, ns, _, rfl, hu, hS, by rw [hl2]; exact hF _ (by omega) (by omega)⟩, ?_⟩
        show (Out.ok (dueO u _ (asIs (intsD ns)))).to _ _
        rw [asIs_ints]
        refine to_ok ?_
        repeat infer_instance
        refine ⟨⟨u, ns, _, rfl, hu, hS, ⟨by omega, by omega⟩, HB hu ⟨by omega, by omega⟩ hS⟩, ?_⟩
        refine to_ok ?_
        repeat infer_instance
        repeat (with_reducible refine gs_nil ?_)
        exact ⟨_, _, _, _, _, _, _, _, rfl, hw⟩
      · repeat infer_instance
        refine ⟨⟨hw, _, rfl, by first | decide | omega, by first | decide | omega⟩, fun o ms1 hR => ?_⟩
        clear hw
        obtain ⟨hw, p2, top, e, rfl, p20, p21⟩ := hR
        cases e
        refine to_ok ?_
        repeat infer_instance
        repeat (with_reducible refine gs_nil ?_)
        show Gs _ _ _ _ _
        refine gs_cons ?_
        repeat infer_instance
        rw [decide_eq_true h]
        repeat infer_instance
        refine ⟨⟨_, ns, _, rfl, hu, hS, by rw [hl2]; exact hF _ (by omega) (by omega)⟩, ?_⟩
        show (Out.ok (dueO u _ (asIs (intsD ns)))).to _ _
        rw [asIs_ints]
        refine to_ok ?_
        repeat infer_instance
        refine ⟨⟨u, ns, _, rfl, hu, hS, ⟨by omega, by omega⟩, HB hu ⟨by omega, by omega⟩ hS⟩, ?_⟩
        refine to_ok ?_
        repeat infer_instance
        repeat (with_reducible refine gs_nil ?_)
        exact ⟨_, _, _, _, _, _, _, _, rfl, hw⟩
    · rw [decide_eq_false h]
      repeat infer_instance
      obtain ⟨top, hT, t0, t1, hF⟩ : ∃ top : Int, atD [PyData.int 1000, .int 1000, .int 300, .int 300, .int 300] (2 + m - 2) = some (.int top) ∧ 1 ≤ top ∧ top ≤ 1000 ∧ True := by
        have : m = 0 ∨ m = 1 ∨ m = 2 ∨ m = 3 ∨ m = 4 := by omega
        rcases this with rfl | rfl | rfl | rfl | rfl
        · exact ⟨1000, rfl, by decide, by decide, trivial⟩
        · exact ⟨1000, rfl, by decide, by decide, trivial⟩
        · exact ⟨300, rfl, by decide, by decide, trivial⟩
        · exact ⟨300, rfl, by decide, by decide, trivial⟩
        · exact ⟨300, rfl, by decide, by decide, trivial⟩
      refine ⟨_, hT, ?_⟩
      repeat infer_instance
      clear hT
      refine ⟨⟨hw, _, rfl, by first | decide | omega, by first | decide | omega⟩, fun o ms1 hR => ?_⟩
      clear hw
      obtain ⟨hw, pe, top, e, rfl, pe0, pe1⟩ := hR
      cases e
      refine to_ok ?_
      repeat infer_instance
      refine ⟨⟨hw, u, 2 + m, 1 + pe, rfl, hu, by omega, by omega, by omega, by omega⟩, fun o ms2 hR => ?_⟩
      clear hw
      obtain ⟨hw, u', m', p', ns, e, rfl, hl2, hS⟩ := hR
      cases e
      refine to_ok ?_
      repeat infer_instance
      refine ⟨⟨hw, _, rfl, by first | decide | omega, by first | decide | omega⟩, fun o ms1 hR => ?_⟩
      clear hw
      obtain ⟨hw, q, top, e, rfl, q0, q1⟩ := hR
      cases e
      refine to_ok ?_
      repeat infer_instance
      rw [eqv_int]
      generalize decide (q = 0) = tq
      cases tq
      · repeat infer_instance
        repeat (with_reducible refine gs_nil ?_)
        show Gs _ _ _ _ _
        refine gs_cons ?_
        repeat infer_instance
        rw [decide_eq_false h]
        repeat infer_instance
        refine ⟨⟨_, ns, _, rfl, hu, hS, by omega, by omega⟩, ?_⟩
        show (Out.ok (dueW _ (stL _ u (asIs (intsD ns))))).to _ _
        rw [asIs_ints, HW (by omega) (by omega) hS.two]
        refine to_ok ?_
        repeat infer_instance
        refine ⟨⟨u, ns, _, rfl, hu, hS, ⟨by omega, by omega⟩, HB hu ⟨by omega, by omega⟩ hS⟩, ?_⟩
        refine to_ok ?_
        repeat infer_instance
        repeat (with_reducible refine gs_nil ?_)
        exact ⟨_, _, _, _, _, _, _, _, rfl, hw⟩
      · repeat infer_instance
        refine ⟨⟨hw, _, rfl, by first | decide | omega, by first | decide | omega⟩, fun o ms1 hR => ?_⟩
        clear hw
        obtain ⟨hw, p2, top, e, rfl, p20, p21⟩ := hR
        cases e
        refine to_ok ?_
        repeat infer_instance
        repeat (with_reducible refine gs_nil ?_)
        show Gs _ _ _ _ _
        refine gs_cons ?_
        repeat infer_instance
        rw [decide_eq_false h]
        repeat infer_instance
        refine ⟨⟨_, ns, _, rfl, hu, hS, by omega, by omega⟩, ?_⟩
        show (Out.ok (dueW _ (stL _ u (asIs (intsD ns))))).to _ _
        rw [asIs_ints, HW (by omega) (by omega) hS.two]
        refine to_ok ?_
        repeat infer_instance
        refine ⟨⟨u, ns, _, rfl, hu, hS, ⟨by omega, by omega⟩, HB hu ⟨by omega, by omega⟩ hS⟩, ?_⟩
        refine to_ok ?_
        repeat infer_instance
        repeat (with_reducible refine gs_nil ?_)
        exact ⟨_, _, _, _, _, _, _, _, rfl, hw⟩
  · clear hw
    rintro Γ ⟨ms, s1, s2, s3, s4, s5, s6, s7, rfl, hw⟩
    show Gs _ _ _ _ _
    refine gs_cons ?_
    repeat infer_instance
    exact ⟨hw, rfl⟩
end
end K70
namespace K70
open PySem PySem.Spec PyProof.Rows L2 Tc Px Py
section
variable {P : Program} {w : World} {K : PySem.W.Frag} {mg : Str → Option Value} {base : Heap}
theorem sc_law : FnScope ["_law_script", "_law_k"] ["_law_script"] (defScope s_law) := ⟨rfl, rfl, rfl, by decide +kernel, rfl, by decide +kernel, by decide +kernel⟩
theorem g_law : ∀ x ∈ (["all", "range"] : List Str), (defScope s_law).names.lookup x = some .globalImplicit := by decide +kernel
def spLaw (K : PySem.W.Frag) : Sp := fun vs H Q _ => ∃ (a : Addr) (ns : List Int), vs = [.ref a] ∧ SqL K H a (ns.map V.int) ∧ ns.length ≤ 63 ∧ ∀ H', Q (.bl true) H'
theorem sq_ext {H H' : Hp} {a : Addr} {xs : List V} (x : Same H H') (h : SqL K H a xs) : SqL K H' a xs := by
  rcases h with (h | ⟨o, h⟩) | h
  · exact .inl (.inl (x _ _ h))
  · exact .inl (.inr ⟨o, x _ _ h⟩)
  · exact .inr h
theorem passF {X : Cx} : Passes (L2.CX X.prog X.w) X (fun _ _ _ => False) := fun pins σ => pass_never (σ := σ) pins
theorem ok_law {f : Addr} {fd : FuncData} (F : Fun K "law" "law" s_law f fd) (B : Gls mg)
    (DJ : Call P w K mg base CX0 1 "_law_well" ["_law_script", "_law_k"] (spWell K)) (DR : Call P w K mg base (L2.CX P w) 8 "_law_right" ["_law_well_here"] (spP 0 (fun ps _ => Well ps) RTrue)) :
    FnG P w K mg base CX0 9 f fd ["_law_script"] (spLaw K) := by
  refine Fun.okG F sc_law (fun vs H Q E h => ?_) (fun cdv A outer s H vs Q E hr hgd h => ?_)
  · obtain ⟨a, ns, rfl, _⟩ := h
    rfl
  · obtain ⟨a, ns, rfl, hS, hl, hQ⟩ := h
    refine ⟨_, pss_one (ps_ret (pe_callB (cr_all rfl) (g_law _ (.head _)) B.all (by decide +kernel) (pa_cons
      (pe_lc (own := [("_law_k", 1)]) (g := gName 1) (te := tCall (spP 0 (fun ps _ => Well ps) RTrue) [] (fun _ _ _ => False) (tCons (tCall (spWell K) [] (fun _ _ _ => False) (tCons (tVar 0) (tCons (tVar 1) tNil))) tNil)) rfl sc_law.nd
        (pi_range1 (g_law _ (.tail _ (.head _))) B.range (pa_cons pe_int pa_nil))
        (blkOk_by (own := [("_law_k", 1)]) (N := ["_law_script", "_law_k"]) (sc := defScope s_law) (by decide +kernel)) (fun _ _ _ _ _ => pg_name (i := 1) sc_law.nd rfl (.inl rfl)) (fun _ _ _ _ _ => pts_nil)
        (fun _ _ _ _ _ => pe_do DR (hr.mono (by decide)) hgd (by rfl) passF (pa_cons (pe_do DJ (hr.mono (by decide)) hgd (by rfl) pass0 (pa_cons (pv 0) (pa_cons (pv 1) pa_nil))) pa_nil))) pa_nil))), ?_⟩
    refine ⟨2, rfl, by omega, by omega, fun D hD => lc_range (lo := 0) (n := 2) (fun i H' => Same H H' ∧ H' D = some (.lst ((List.replicate i true).map V.bl)))
      ⟨Same.new hD, upd_same⟩ (fun i H' hi p => ?_) (fun H' p => ?_)⟩
    · obtain ⟨x, hd⟩ := p
      refine ⟨rfl, _, rfl, _, rfl, a, ns, i, by show [V.ref a, V.int (0 + (i : Int))] = _; rw [Int.zero_add], by omega, sq_ext x hS, hl, fun H3 p hp s3 ⟨u, v, hj, u0, v0, v1⟩ => ?_⟩
      refine ⟨fun _ => none, p, _, [], [.int u, .int v, .int 0], [], rfl, fun _ _ z => (nomatch z), rfl, hj, .cons (.int _) (.cons (.int _) (.cons (.int _) .nil)), .nil, rfl, ⟨u, v, 0, rfl, u0, v0, v1⟩, fun o ms' r v' Hs' H4 pv' k4 _ _ _ _ => ?_⟩
      obtain ⟨_, rfl⟩ := r
      intro dv
      cases dv
      have pD : D ≠ p := ne_of_none hd hp
      have hd3 := s3 _ _ hd
      have hd4 := k4 _ _ hd3 pD
      refine ⟨_, hd4, ?_, fun c o e => (upd_ne fun z => by rw [z, hD] at e; cases e).trans (k4 c o (s3 _ _ (x c o e)) (ne_of_none (x c o e) hp)), ?_⟩
      · rw [List.length_map, List.length_replicate]
        exact Nat.lt_of_lt_of_le (show i < 4 by omega) (by decide)
      · rw [upd_same, List.replicate_succ', List.map_append] <;> rfl
    · obtain ⟨x, hd⟩ := p
      refine ⟨D, List.replicate 2 true, rfl, .inl (.inl hd), ?_⟩
      exact hQ H'
end
end K70
namespace K70
open PySem PySem.Spec PyProof.Rows L2 Tc Px Py
/-! Functions of a whole number, 0 below 0: sums up to it, what two of them differ by. -/
def Zr (g : Int → Int) : Prop := ∀ r, r < 0 → g r = 0
def Pz (g : Int → Int) : Int → Int := fun r => smF (fun n => g n) (r + 1).toNat
def Dz (w : Int) (g : Int → Int) : Int → Int := fun r => g r - g (r - (w + 1))
theorem pz_zero (g : Int → Int) : Zr (Pz g) := fun r h => by
  unfold Pz
  rw [show (r + 1).toNat = 0 by omega] <;> rfl
theorem pz_step {g : Int → Int} (z : Zr g) (r : Int) : Pz g r = Pz g (r - 1) + g r := by
  by_cases h : r < 0
  · rw [pz_zero g r h, pz_zero g (r - 1) (by omega), z r h] <;> rfl
  · unfold Pz
    rw [show (r + 1).toNat = (r - 1 + 1).toNat + 1 by omega]
    show smF _ _ + g (((r - 1 + 1).toNat : Nat) : Int) = _
    rw [show (((r - 1 + 1).toNat : Nat) : Int) = r by omega]
theorem pz_only {f g : Int → Int} (zg : Zr g) (zf : Zr f) (h : ∀ r, f r = f (r - 1) + g r) : f = Pz g := by
  have k : ∀ n : Nat, f n = Pz g n := by
    intro n
    induction n with
    | zero => rw [h, pz_step zg, zf _ (by omega), pz_zero g _ (by omega)]
    | succ n ih => rw [h, pz_step zg, show ((n + 1 : Nat) : Int) - 1 = n by omega, ih]
  funext r
  by_cases hr : r < 0
  · rw [zf r hr, pz_zero g r hr]
  · have := k r.toNat
    rw [show ((r.toNat : Nat) : Int) = r by omega] at this
    exact this
theorem dz_zero {w : Int} {g : Int → Int} (hw : 0 ≤ w) (z : Zr g) : Zr (Dz w g) := fun r h => by
  unfold Dz
  rw [z r h, z _ (by omega)] <;> rfl
theorem pz_dz {w : Int} {g : Int → Int} (hw : 0 ≤ w) (z : Zr g) : Pz (Dz w g) = Dz w (Pz g) := by
  refine (pz_only (dz_zero hw z) (dz_zero hw (pz_zero g)) fun r => ?_).symm
  unfold Dz
  have h1 := pz_step z r
  have h2 := pz_step z (r - (w + 1))
  rw [show r - (w + 1) - 1 = r - 1 - (w + 1) by omega] at h2
  omega
theorem dz_dz (v w : Int) (g : Int → Int) : Dz v (Dz w g) = Dz w (Dz v g) := by
  funext r
  unfold Dz
  rw [show r - (v + 1) - (w + 1) = r - (w + 1) - (v + 1) by omega]
  omega
def DL (ws : List Int) (g : Int → Int) : Int → Int := ws.foldr (fun w g => Dz w g) g
def PN : Nat → (Int → Int) → (Int → Int)
  | 0, g => g
  | n + 1, g => Pz (PN n g)
theorem pn_zero : ∀ (n : Nat) {g : Int → Int}, Zr g → Zr (PN n g)
  | 0, _, z => z
  | n + 1, _, _ => pz_zero _
theorem pn_dz {w : Int} {g : Int → Int} (hw : 0 ≤ w) (z : Zr g) : ∀ n, PN n (Dz w g) = Dz w (PN n g)
  | 0 => rfl
  | n + 1 => by
    show Pz (PN n (Dz w g)) = Dz w (Pz (PN n g))
    rw [pn_dz hw z n, pz_dz hw (pn_zero n z)]
theorem pn_pz (g : Int → Int) : ∀ n, PN n (Pz g) = Pz (PN n g)
  | 0 => rfl
  | n + 1 => by
    show Pz (PN n (Pz g)) = Pz (Pz (PN n g))
    rw [pn_pz g n]
theorem dl_dz (w : Int) : ∀ (ws : List Int) (g : Int → Int), DL ws (Dz w g) = Dz w (DL ws g)
  | [], _ => rfl
  | v :: ws, g => by
    show Dz v (DL ws (Dz w g)) = Dz w (Dz v (DL ws g))
    rw [dl_dz w ws g, dz_dz]
theorem dl_pz : ∀ (ws : List Int) {g : Int → Int}, (∀ w ∈ ws, 0 ≤ w) → Zr g → Zr (DL ws g) ∧ DL ws (Pz g) = Pz (DL ws g)
  | [], _, _, z => ⟨z, rfl⟩
  | w :: ws, g, h, z => by
    obtain ⟨z1, e⟩ := dl_pz ws (fun v hv => h v (.tail _ hv)) z
    refine ⟨dz_zero (h w (.head _)) z1, ?_⟩
    show Dz w (DL ws (Pz g)) = Pz (Dz w (DL ws g))
    rw [e, pz_dz (h w (.head _)) z1]
/-- a function of counts as one of whole numbers -/
def ez (f : Nat → Int) : Int → Int := fun r => if r < 0 then 0 else f r.toNat
theorem ez_zero (f : Nat → Int) : Zr (ez f) := fun r h => if_pos h
theorem sm_ez (f : Nat → Int) : ∀ n, smF (fun n => ez f (n : Int)) n = smF f n
  | 0 => rfl
  | n + 1 => by
    show smF _ n + ez f (n : Int) = smF f n + f n
    rw [sm_ez f n]
    unfold ez
    rw [if_neg (by omega), Int.toNat_natCast]
theorem ez_dstep {w : Int} (hw : 0 ≤ w) (f : Nat → Int) : ez (dstep w.toNat f) = Dz w (Pz (ez f)) := by
  funext r
  by_cases h : r < 0
  · rw [ez_zero _ r h, dz_zero hw (pz_zero _) r h]
  · show (if r < 0 then 0 else dstep w.toNat f r.toNat) = _
    rw [if_neg h]
    unfold Dz Pz dstep
    rw [sm_ez, sm_ez, show (r + 1).toNat = r.toNat + 1 by omega, show (r - (w + 1) + 1).toNat = r.toNat - w.toNat by omega]
theorem ez_fold : ∀ (ws : List Int) (f : Nat → Int), (∀ w ∈ ws, 0 ≤ w) → ez (ws.foldl (fun f r => dstep r.toNat f) f) = DL ws (PN ws.length (ez f))
  | [], f, _ => rfl
  | w :: ws, f, h => by
    show ez (ws.foldl (fun f r => dstep r.toNat f) (dstep w.toNat f)) = Dz w (DL ws (Pz (PN ws.length (ez f))))
    rw [ez_fold ws _ fun v hv => h v (.tail _ hv), ez_dstep (h w (.head _)), pn_dz (h w (.head _)) (pz_zero _), pn_pz, dl_dz]
/-! ### the lots -/
def lotG (g : Int → Int) (A : List (Int × Int)) : Int := (A.map fun y => y.1 * g y.2).sum
theorem lot_app (g : Int → Int) (A B : List (Int × Int)) : lotG g (A ++ B) = lotG g A + lotG g B := by
  unfold lotG
  rw [List.map_append, List.sum_append]
theorem lot_neg (g : Int → Int) (w : Int) : ∀ A : List (Int × Int), lotG g (A.map fun y => (-y.1, y.2 - (w + 1))) + lotG g A = lotG (Dz w g) A
  | [] => rfl
  | y :: A => by
    have ih := lot_neg g w A
    show (-y.1 * g (y.2 - (w + 1)) + lotG g (A.map fun y => (-y.1, y.2 - (w + 1)))) + (y.1 * g y.2 + lotG g A) = y.1 * (g y.2 - g (y.2 - (w + 1))) + lotG (Dz w g) A
    rw [← ih, Int.mul_sub, Int.neg_mul]
    omega
theorem lot_fold (g : Int → Int) : ∀ (L A : List (Int × Int)), lotG g (L.foldl stepL A) = lotG (DL (L.map fun x => x.2 - x.1) g) A
  | [], _ => rfl
  | x :: L, A => by
    show lotG g (L.foldl stepL (stepL A x)) = lotG (Dz (x.2 - x.1) (DL (L.map fun x => x.2 - x.1) g)) A
    rw [lot_fold g L, ← lot_neg]
    unfold stepL
    rw [lot_app]
    omega
theorem lot_fil (g : Int → Int) (z : Zr g) : ∀ A : List (Int × Int), ((A.filter fun y => decide (0 ≤ y.2)).map fun y => y.1 * g y.2).sum = lotG g A
  | [] => rfl
  | y :: A => by
    have ih := lot_fil g z A
    show _ = y.1 * g y.2 + lotG g A
    by_cases h : 0 ≤ y.2
    · rw [show (y :: A).filter (fun y => decide (0 ≤ y.2)) = y :: A.filter (fun y => decide (0 ≤ y.2)) from List.filter_cons_of_pos (decide_eq_true h), List.map_cons, List.sum_cons, ih]
    · rw [show (y :: A).filter (fun y => decide (0 ≤ y.2)) = A.filter (fun y => decide (0 ≤ y.2)) from List.filter_cons_of_neg (by rw [decide_eq_false h]; decide), ih, z _ (by omega), Int.mul_zero, Int.zero_add]
/-! ### how many ways: the binomials -/
def Tb : Nat → Nat → Int
  | 0, _ => 1
  | _ + 1, 0 => 1
  | i + 1, j + 1 => Tb i (j + 1) + Tb (i + 1) j
termination_by i j => i + j
theorem tb_s (i j : Nat) : Tb (i + 1) (j + 1) = Tb i (j + 1) + Tb (i + 1) j := by rw [Tb]
theorem tb_l (j : Nat) : Tb 0 j = 1 := by rw [Tb]
theorem tb_r : ∀ i : Nat, Tb i 0 = 1
  | 0 => tb_l 0
  | i + 1 => by rw [Tb]
theorem tb_sym : ∀ n i j : Nat, i + j = n → Tb i j = Tb j i := by
  intro n
  induction n with
  | zero =>
    intro i j h
    obtain ⟨rfl, rfl⟩ : i = 0 ∧ j = 0 := by omega
    rfl
  | succ n ih =>
    intro i j h
    match i, j with
    | 0, j => rw [tb_l, tb_r]
    | i + 1, 0 => rw [tb_l, tb_r]
    | i + 1, j + 1 => rw [tb_s, tb_s, ih i (j + 1) (by omega), ih (i + 1) j (by omega), Int.add_comm]
open PySem.Builtin.Math in
theorem fp_top (n : Int) : ∀ i : Nat, fallingProduct (n + 1) (i + 1) = fallingProduct n i * (n + 1)
  | 0 => by rw [PySem.W.mc_fp_one, PySem.W.mc_fp_zero, Int.one_mul]
  | i + 1 => by
    rw [PySem.W.mc_fp_succ (n + 1) (i + 1), fp_top n i, PySem.W.mc_fp_succ n i, Int.mul_assoc, Int.mul_assoc, Int.mul_comm (n + 1)]
    congr 2
    omega
open PySem.Builtin.Math in
theorem tb_fp : ∀ n i j : Nat, i + j = n → Tb i j * fallingProduct i i = fallingProduct ((i : Int) + j) i := by
  intro n
  induction n with
  | zero =>
    intro i j h
    obtain ⟨rfl, rfl⟩ : i = 0 ∧ j = 0 := by omega
    rw [tb_l] <;> rfl
  | succ n ih =>
    intro i j h
    match i, j with
    | 0, j =>
      rw [tb_l, PySem.W.mc_fp_zero, PySem.W.mc_fp_zero]
      rfl
    | i + 1, 0 =>
      rw [tb_r, Int.one_mul]
      congr 1
    | i + 1, j + 1 =>
      have a := ih i (j + 1) (by omega)
      have b := ih (i + 1) j (by omega)
      have e1 : fallingProduct ((i + 1 : Nat) : Int) (i + 1) = fallingProduct (i : Int) i * ((i : Int) + 1) := fp_top i i
      have e2 : fallingProduct (((i + 1 : Nat) : Int) + (j : Int)) (i + 1) = fallingProduct ((i : Int) + ((j + 1 : Nat) : Int)) i * ((j : Int) + 1) := by
        rw [PySem.W.mc_fp_succ, show (((i + 1 : Nat) : Int) + (j : Int)) = (i : Int) + ((j + 1 : Nat) : Int) by omega, show (i : Int) + ((j + 1 : Nat) : Int) - i = (j : Int) + 1 by omega]
      have e3 : fallingProduct (((i + 1 : Nat) : Int) + ((j + 1 : Nat) : Int)) (i + 1) = fallingProduct ((i : Int) + ((j + 1 : Nat) : Int)) i * ((i : Int) + ((j + 1 : Nat) : Int) + 1) := by
        rw [show (((i + 1 : Nat) : Int) + ((j + 1 : Nat) : Int)) = ((i : Int) + ((j + 1 : Nat) : Int)) + 1 by omega, fp_top]
      rw [tb_s, Int.add_mul, b, e2, e1, ← Int.mul_assoc, a, e3, ← Int.mul_add]
      congr 1
      omega
theorem mc_tb (i j : Nat) : PySem.W.mcComb ((i : Int) + j) i = Tb i j := by
  by_cases h : i ≤ j
  · have hm : min (i : Int) ((i : Int) + j - i) = i := by omega
    rw [PySem.W.mcComb_at (by omega) (by omega) hm, Int.toNat_natCast, ← tb_fp _ i j rfl]
    exact Int.mul_ediv_cancel _ (by have := PySem.W.mc_fp_pos (n := (i : Int)) i (Int.le_refl _); omega)
  · have hm : min (i : Int) ((i : Int) + j - i) = j := by omega
    rw [PySem.W.mcComb_at (by omega) (by omega) hm, Int.toNat_natCast, Int.add_comm, ← tb_fp _ j i rfl, tb_sym _ i j rfl]
    exact Int.mul_ediv_cancel _ (by have := PySem.W.mc_fp_pos (n := (j : Int)) j (Int.le_refl _); omega)
def Cz (n : Nat) : Int → Int := fun r => if r < 0 then 0 else PySem.W.mcComb (r + n) n
theorem cz_zero (n : Nat) : Zr (Cz n) := fun r h => if_pos h
theorem cz_at (n : Nat) {r : Int} (h : 0 ≤ r) : Cz n r = Tb n r.toNat := by
  unfold Cz
  rw [if_neg (by omega), ← mc_tb, show (n : Int) + ((r.toNat : Nat) : Int) = r + n by omega]
theorem cz_step (n : Nat) : Cz (n + 1) = Pz (Cz n) := pz_only (cz_zero n) (cz_zero (n + 1)) fun r => by
  by_cases h : r < 0
  · rw [cz_zero _ r h, cz_zero _ (r - 1) (by omega), cz_zero _ r h] <;> rfl
  · by_cases h0 : r = 0
    · subst h0
      rw [cz_at _ (by omega), cz_zero _ (0 - 1) (by omega), cz_at _ (by omega)]
      show Tb (n + 1) 0 = 0 + Tb n 0
      rw [tb_r, tb_r] <;> rfl
    · rw [cz_at _ (by omega), cz_at _ (by omega), cz_at _ (by omega), show r.toNat = (r - 1).toNat + 1 by omega, tb_s, Int.add_comm]
theorem cz_one : Cz 0 = Pz (ez dl0) := pz_only (ez_zero _) (cz_zero 0) fun r => by
  by_cases h : r < 0
  · rw [cz_zero _ r h, cz_zero _ (r - 1) (by omega), ez_zero _ r h] <;> rfl
  · by_cases h0 : r = 0
    · subst h0
      rw [cz_at _ (by omega), cz_zero _ (0 - 1) (by omega), tb_l] <;> rfl
    · rw [cz_at _ (by omega), cz_at _ (by omega), tb_l, tb_l]
      unfold ez dl0
      rw [if_neg h, if_neg (by omega)] <;> rfl
theorem pn_cz : ∀ n : Nat, PN (n + 1) (ez dl0) = Cz n
  | 0 => cz_one.symm
  | n + 1 => by
    show Pz (PN (n + 1) (ez dl0)) = _
    rw [pn_cz n, cz_step]
/-- the ways, counted by tables and by lots, are as many -/
theorem ways_lots {L : List (Int × Int)} {r : Int} (hw : ∀ x ∈ L, x.1 ≤ x.2) (hl : 1 ≤ L.length) (h0 : 0 ≤ r) :
    (((lotsL r L).filter fun y => decide (0 ≤ y.2)).map fun y => y.1 * PySem.W.mcComb (y.2 + ((L.length : Int) - 1)) ((L.length : Int) - 1)).sum = dF (L.map fun x => x.2 - x.1) r.toNat := by
  obtain ⟨n, hn⟩ : ∃ n, L.length = n + 1 := ⟨L.length - 1, by omega⟩
  have hws : ∀ w ∈ L.map (fun x => x.2 - x.1), 0 ≤ w := fun w h => by
    obtain ⟨x, hx, rfl⟩ := List.mem_map.mp h
    have := hw x hx
    omega
  have e1 := ez_fold (L.map fun x => x.2 - x.1) dl0 hws
  rw [List.length_map, hn, pn_cz] at e1
  have e2 : dF (L.map fun x => x.2 - x.1) r.toNat = DL (L.map fun x => x.2 - x.1) (Cz n) r := by
    rw [← e1]
    show _ = (if r < 0 then 0 else _)
    rw [if_neg (by omega)] <;> rfl
  have e3 := lot_fold (Cz n) L [(1, r)]
  have e4 : lotG (DL (L.map fun x => x.2 - x.1) (Cz n)) [(1, r)] = DL (L.map fun x => x.2 - x.1) (Cz n) r := by
    show 1 * DL (L.map fun x => x.2 - x.1) (Cz n) r + 0 = _
    rw [Int.one_mul, Int.add_zero]
  rw [e2, ← e4, ← e3, ← lot_fil (Cz n) (cz_zero n)]
  refine congrArg List.sum (List.map_congr_left fun y hy => ?_)
  have hy0 := of_decide_eq_true (List.mem_filter.mp hy).2
  unfold Cz
  rw [if_neg (by omega), hn, show (((n + 1 : Nat) : Int) - 1) = n by omega]
theorem ways_ok : Ways := fun {u p ns} hu hp h2 => by
  unfold dueW dueO numP
  cases h : fitB p (stL p u ns)
  · rw [if_neg (by decide), if_neg (by decide)]
  · obtain ⟨h1, h3, h4⟩ := fit_parts h
    have hl : 2 ≤ (stL p u ns).length := by unfold stL; rw [List.length_map]; exact h2
    rw [if_pos rfl, if_pos rfl, ways_lots h1 (by omega) (by omega)]
end K70
namespace K70
open PySem PySem.Spec PyProof.Rows L2 Tc Px Py
theorem due_mem {u p : Int} {ns l : List Int} (hu : 0 < u) (hp : 0 < p) (hn : 0 < ns.length) : l ∈ dueL u ns p ↔ Box l (stL p u ns) ∧ l.sum = p := by
  unfold dueL
  rw [List.mem_filter, decide_eq_true_eq, mem_all (by omega) hn]
  constructor
  · rintro ⟨⟨h1, h2, h3⟩, h4⟩
    exact ⟨(due_iff hu hp h2 h3).mp h4, h3⟩
  · rintro ⟨h1, h2⟩
    have h3 := lo_nn h1
    have hl := h1.sum.2.2
    unfold stL at hl
    rw [List.length_map] at hl
    exact ⟨⟨hl, h3, h2⟩, (due_iff hu hp h3 h2).mpr h1⟩
theorem los_cons (x : Int × Int) (L : List (Int × Int)) : loS (x :: L) = x.1 + loS L := rfl
theorem his_cons (x : Int × Int) (L : List (Int × Int)) : hiS (x :: L) = x.2 + hiS L := rfl
theorem los_his : ∀ L : List (Int × Int), (∀ x ∈ L, x.1 ≤ x.2) → loS L ≤ hiS L
  | [], _ => Int.le_refl _
  | x :: L, h => by
    have h1 := los_his L fun y hy => h y (.tail _ hy)
    have h2 := h x (.head _)
    rw [los_cons, his_cons]
    omega
theorem others : ∀ (L : List (Int × Int)) (k : Nat), (∀ x ∈ L, x.1 ≤ x.2) → k < L.length → loS L - (L.getD k (0, 0)).1 ≤ hiS L - (L.getD k (0, 0)).2
  | [], _, _, h => absurd h (Nat.not_lt_zero _)
  | x :: L, 0, h, _ => by
    have h1 := los_his L fun y hy => h y (.tail _ hy)
    rw [los_cons, his_cons]
    show x.1 + loS L - x.1 ≤ x.2 + hiS L - x.2
    omega
  | x :: L, k + 1, h, hk => by
    have h1 := others L k (fun y hy => h y (.tail _ hy)) (Nat.lt_of_succ_lt_succ hk)
    have h2 := h x (.head _)
    rw [los_cons, his_cons]
    show x.1 + loS L - (L.getD k (0, 0)).1 ≤ x.2 + hiS L - (L.getD k (0, 0)).2
    omega
theorem box_side : ∀ (L : List (Int × Int)) (k : Nat) (p v : Int), (∀ x ∈ L, x.1 ≤ x.2) → k < L.length →
    ((∃ l, Box l L ∧ l.sum = p ∧ l.getD k 0 = v) ↔ ((L.getD k (0, 0)).1 ≤ v ∧ v ≤ (L.getD k (0, 0)).2 ∧ loS L - (L.getD k (0, 0)).1 ≤ p - v ∧ p - v ≤ hiS L - (L.getD k (0, 0)).2))
  | [], _, _, _, _, h => absurd h (Nat.not_lt_zero _)
  | x :: L, 0, p, v, h, _ => by
    have hL := fun y hy => h y (.tail _ hy)
    rw [los_cons, his_cons]
    show _ ↔ (x.1 ≤ v ∧ v ≤ x.2 ∧ x.1 + loS L - x.1 ≤ p - v ∧ p - v ≤ x.2 + hiS L - x.2)
    constructor
    · rintro ⟨l, b, hs, hv⟩
      cases b with
      | @cons a _ l _ q1 q2 b =>
        have hv : a = v := hv
        rw [List.sum_cons] at hs
        obtain ⟨s1, s2, _⟩ := b.sum
        omega
    · rintro ⟨q1, q2, q3, q4⟩
      obtain ⟨b, hs⟩ := fR_box (L := L) (e := p - v - loS L) (none_of hL) (by omega) (by unfold wd; omega)
      exact ⟨v :: fR (p - v - loS L) L, .cons q1 q2 b, by rw [List.sum_cons, hs]; omega, rfl⟩
  | x :: L, k + 1, p, v, h, hk => by
    have hL : ∀ y ∈ L, y.1 ≤ y.2 := fun y hy => h y (.tail _ hy)
    have hx := h x (.head _)
    have hk := Nat.lt_of_succ_lt_succ hk
    have ho := others L k hL hk
    rw [los_cons, his_cons]
    show _ ↔ ((L.getD k (0, 0)).1 ≤ v ∧ v ≤ (L.getD k (0, 0)).2 ∧ x.1 + loS L - (L.getD k (0, 0)).1 ≤ p - v ∧ p - v ≤ x.2 + hiS L - (L.getD k (0, 0)).2)
    constructor
    · rintro ⟨l, b, hs, hv⟩
      cases b with
      | @cons a _ l _ q1 q2 b =>
        rw [List.sum_cons] at hs
        have := (box_side L k (p - a) v hL hk).mp ⟨l, b, by omega, hv⟩
        omega
    · rintro ⟨q1, q2, q3, q4⟩
      generalize hy : L.getD k (0, 0) = y at *
      have q5 : ∃ a : Int, x.1 ≤ a ∧ a ≤ x.2 ∧ loS L - y.1 ≤ p - a - v ∧ p - a - v ≤ hiS L - y.2 := by
        by_cases c : x.1 ≤ p - v - (hiS L - y.2)
        · exact ⟨p - v - (hiS L - y.2), by omega, by omega, by omega, by omega⟩
        · exact ⟨x.1, by omega, by omega, by omega, by omega⟩
      obtain ⟨a, a1, a2, a3, a4⟩ := q5
      obtain ⟨l, b, hs, hv⟩ := (box_side L k (p - a) v hL hk).mpr (by rw [hy]; exact ⟨q1, q2, by omega, by omega⟩)
      exact ⟨a :: l, .cons a1 a2 b, by rw [List.sum_cons, hs]; omega, hv⟩
theorem sides_ok : Sides := fun {u p ns} hu hp hn hf k hk v => by
  obtain ⟨h1, h2, h3⟩ := fit_parts hf
  have hk2 : k < (stL p u ns).length := by unfold stL; rw [List.length_map]; exact hk
  have e : v ∈ sideL (dueL u ns p) k ↔ ∃ l, Box l (stL p u ns) ∧ l.sum = p ∧ l.getD k 0 = v := by
    unfold sideL
    rw [List.mem_map]
    constructor
    · rintro ⟨l, hl, hv⟩
      obtain ⟨a, b⟩ := (due_mem hu hp hn).mp hl
      exact ⟨l, a, b, hv⟩
    · rintro ⟨l, a, b, hv⟩
      exact ⟨l, (due_mem hu hp hn).mpr ⟨a, b⟩, hv⟩
  rw [e, box_side _ k p v h1 hk2]
  generalize (stL p u ns).getD k (0, 0) = x
  unfold mxx mn
  constructor
  · rintro ⟨q1, q2, q3, q4⟩
    constructor <;> split <;> omega
  · rintro ⟨q1, q2⟩
    split at q1 <;> split at q2 <;> refine ⟨?_, ?_, ?_, ?_⟩ <;> omega
/-! ### the number is no great one -/
theorem sm_bd {f : Nat → Int} {M : Int} {N : Nat} (h : ∀ n, n ≤ N → 0 ≤ f n ∧ f n ≤ M) : ∀ (a b : Nat), a ≤ b → b ≤ N + 1 → smF f a ≤ smF f b ∧ smF f b ≤ b * M
  | a, 0, h1, _ => by
    have : a = 0 := by omega
    subst this
    exact ⟨Int.le_refl _, by show (0 : Int) ≤ ((0 : Nat) : Int) * M; omega⟩
  | a, b + 1, h1, h2 => by
    have hb := h b (by omega)
    by_cases e : a = b + 1
    · subst e
      have ih := (sm_bd h b b (Nat.le_refl _) (by omega)).2
      refine ⟨Int.le_refl _, ?_⟩
      show smF f b + f b ≤ ((b + 1 : Nat) : Int) * M
      rw [Int.natCast_add, Int.add_mul]
      show smF f b + f b ≤ b * M + 1 * M
      omega
    · obtain ⟨i1, i2⟩ := sm_bd h a b (by omega) (by omega)
      refine ⟨by show smF f a ≤ smF f b + f b; omega, ?_⟩
      show smF f b + f b ≤ ((b + 1 : Nat) : Int) * M
      rw [Int.natCast_add, Int.add_mul]
      show smF f b + f b ≤ b * M + 1 * M
      omega
theorem df_bd : ∀ (ws : List Int) (f : Nat → Int) (M : Int), 0 ≤ M → (∀ n, n ≤ 1000 → 0 ≤ f n ∧ f n ≤ M) → ∀ k, k ≤ 1000 → 0 ≤ ws.foldl (fun f r => dstep r.toNat f) f k ∧ ws.foldl (fun f r => dstep r.toNat f) f k ≤ 1001 ^ ws.length * M
  | [], f, M, _, h, k, hk => by
    have := h k hk
    show 0 ≤ f k ∧ f k ≤ 1 * M
    omega
  | w :: ws, f, M, h0, h, k, hk => by
    have := df_bd ws (dstep w.toNat f) (1001 * M) (by omega) (fun n hn => by
      obtain ⟨i1, i2⟩ := sm_bd h (n - w.toNat) (n + 1) (by omega) (by omega)
      have i0 := (sm_bd h 0 (n - w.toNat) (by omega) (by omega)).1
      have i0 : 0 ≤ smF f (n - w.toNat) := i0
      have i3 : ((n + 1 : Nat) : Int) * M ≤ 1001 * M := Int.mul_le_mul_of_nonneg_right (by omega) h0
      unfold dstep
      omega) k hk
    refine ⟨this.1, Int.le_trans this.2 (Int.le_of_eq ?_)⟩
    rw [List.length_cons, Int.pow_succ, Int.mul_assoc]
theorem bound_ok : Bound := fun {u p ns} hu hp hS => by
  have hu2 : 0 < u := by rcases hu with rfl | rfl <;> decide
  unfold numP
  cases h : fitB p (stL p u ns)
  · rw [if_neg (by decide)]
    exact ⟨Int.le_refl _, by decide⟩
  obtain ⟨h1, h3, h4⟩ := fit_parts h
  have hl : (stL p u ns).length = ns.length := List.length_map _
  have hl0 : 0 ≤ loS (stL p u ns) := (sum_ge fun n hn => by
    obtain ⟨x, hx, rfl⟩ := List.mem_map.mp hn
    exact (st_bd hp.1 x hx).1).1
  have h2 := hS.two
  have h6 := hS.six
  rw [if_pos rfl, ways_lots h1 (by omega) (by omega)]
  have b := df_bd ((stL p u ns).map fun x => x.2 - x.1) dl0 1 (by decide) (fun n _ => by unfold dl0; split <;> decide) (p - loS (stL p u ns)).toNat (by omega)
  refine ⟨b.1, Int.lt_of_le_of_lt b.2 ?_⟩
  rw [List.length_map, hl]
  have : ns.length = 2 ∨ ns.length = 3 ∨ ns.length = 4 ∨ ns.length = 5 ∨ ns.length = 6 := by omega
  rcases this with e | e | e | e | e <;> rw [e] <;> decide
end K70
namespace K70
open PySem PySem.Spec PyProof.Rows L2 Tc Px Py
/-- all lists in a box with a sum, one behind another -/
def Gl : List (Int × Int) → Int → List (List Int)
  | [], p => if p = 0 then [[]] else []
  | x :: L, p => (List.range (x.2 - x.1 + 1).toNat).flatMap fun i : Nat => (Gl L (p - (x.1 + (i : Int)))).map fun l => (x.1 + (i : Int)) :: l
theorem gl_mem : ∀ (L : List (Int × Int)) (p : Int) (l : List Int), l ∈ Gl L p ↔ Box l L ∧ l.sum = p
  | [], p, l => by
    unfold Gl
    by_cases h : p = 0
    · rw [if_pos h, List.mem_singleton]
      constructor
      · rintro rfl
        exact ⟨.nil, h.symm⟩
      · rintro ⟨b, _⟩
        cases b
        rfl
    · rw [if_neg h]
      constructor
      · exact fun z => nomatch z
      · rintro ⟨b, hs⟩
        cases b
        exact absurd hs.symm h
  | x :: L, p, l => by
    show l ∈ (List.range (x.2 - x.1 + 1).toNat).flatMap (fun i : Nat => (Gl L (p - (x.1 + (i : Int)))).map fun l => (x.1 + (i : Int)) :: l) ↔ _
    rw [List.mem_flatMap]
    constructor
    · rintro ⟨i, hi, hl⟩
      have hi := List.mem_range.mp hi
      obtain ⟨r, hr, rfl⟩ := List.mem_map.mp hl
      obtain ⟨b, hs⟩ := (gl_mem L _ r).mp hr
      exact ⟨.cons (by omega) (by omega) b, by rw [List.sum_cons, hs]; omega⟩
    · rintro ⟨b, hs⟩
      cases b with
      | @cons a _ r _ q1 q2 b =>
        rw [List.sum_cons] at hs
        have e : x.1 + (((a - x.1).toNat : Nat) : Int) = a := by omega
        refine ⟨(a - x.1).toNat, List.mem_range.mpr (by omega), List.mem_map.mpr ⟨r, (gl_mem L _ r).mpr ⟨b, by rw [e]; omega⟩, by rw [e]⟩⟩
theorem gl_pair : ∀ (L : List (Int × Int)) (p : Int), (Gl L p).Pairwise lexlt
  | [], p => by
    unfold Gl
    split
    · exact List.pairwise_singleton _ _
    · exact .nil
  | x :: L, p => by
    show ((List.range (x.2 - x.1 + 1).toNat).flatMap (fun i : Nat => (Gl L (p - (x.1 + (i : Int)))).map fun l => (x.1 + (i : Int)) :: l)).Pairwise lexlt
    refine List.pairwise_flatMap.mpr ⟨fun i _ => ?_, ?_⟩
    · refine List.pairwise_map.mpr ((gl_pair L _).imp fun h => ?_)
      exact .inr ⟨rfl, h⟩
    · refine List.pairwise_lt_range.imp fun {i j} hij => ?_
      rintro l hl r hr
      obtain ⟨l', _, rfl⟩ := List.mem_map.mp hl
      obtain ⟨r', _, rfl⟩ := List.mem_map.mp hr
      exact .inl (by omega)
theorem sorted_eq : ∀ {A B : List (List Int)}, A.Pairwise lexlt → B.Pairwise lexlt → (∀ l, l ∈ A ↔ l ∈ B) → A = B
  | [], [], _, _, _ => rfl
  | [], b :: B, _, _, h => nomatch (h b).mpr (.head _)
  | a :: A, [], _, _, h => nomatch (h a).mp (.head _)
  | a :: A, b :: B, hA, hB, h => by
    cases hA with
    | cons a1 a2 =>
      cases hB with
      | cons b1 b2 =>
        have e : a = b := by
          rcases List.mem_cons.mp ((h a).mp (.head _)) with e | m1
          · exact e
          · rcases List.mem_cons.mp ((h b).mpr (.head _)) with e | m2
            · exact e.symm
            · exact absurd (a1 b m2) fun z => lex_asym _ _ z (b1 a m1)
        subst e
        rw [sorted_eq a2 b2 fun l => ⟨fun m => ?_, fun m => ?_⟩]
        · rcases List.mem_cons.mp ((h l).mp (.tail _ m)) with e | m1
          · subst e
            exact absurd (a1 l m) (lex_irr l)
          · exact m1
        · rcases List.mem_cons.mp ((h l).mpr (.tail _ m)) with e | m1
          · subst e
            exact absurd (b1 l m) (lex_irr l)
          · exact m1
def hh (L : List (Int × Int)) : Int → Int := fun r => ((Gl L (r + loS L)).length : Int)
theorem hh_zero (L : List (Int × Int)) : Zr (hh L) := fun r h => by
  have e : Gl L (r + loS L) = [] := List.eq_nil_iff_forall_not_mem.mpr fun l hl => by
    obtain ⟨b, hs⟩ := (gl_mem L _ l).mp hl
    have := b.sum.1
    omega
  unfold hh
  rw [e] <;> rfl
theorem flat_sum {α β : Type} (f : α → List β) : ∀ l : List α, ((l.flatMap f).length : Int) = (l.map fun a => ((f a).length : Int)).sum
  | [] => rfl
  | a :: l => by
    rw [List.flatMap_cons, List.length_append, List.map_cons, List.sum_cons, ← flat_sum f l, Int.natCast_add]
theorem sum_back {g : Int → Int} (z : Zr g) (r : Int) : ∀ m : Nat, ((List.range m).map fun i : Nat => g (r - (i : Int))).sum = Pz g r - Pz g (r - m)
  | 0 => by
    rw [show r - ((0 : Nat) : Int) = r by omega]
    show (0 : Int) = _
    omega
  | m + 1 => by
    rw [List.range_succ, List.map_append, List.sum_append, sum_back z r m]
    have h := pz_step z (r - m)
    rw [show r - (m : Int) - 1 = r - ((m + 1 : Nat) : Int) by omega] at h
    show _ + (g (r - (m : Int)) + 0) = _
    omega
theorem hh_cons {x : Int × Int} {L : List (Int × Int)} (hx : x.1 ≤ x.2) : hh (x :: L) = Dz (x.2 - x.1) (Pz (hh L)) := by
  funext r
  have e : hh (x :: L) r = ((List.range (x.2 - x.1 + 1).toNat).map fun i : Nat => hh L (r - (i : Int))).sum := by
    unfold hh
    show (((List.range (x.2 - x.1 + 1).toNat).flatMap fun i : Nat => (Gl L (r + loS (x :: L) - (x.1 + (i : Int)))).map fun l => (x.1 + (i : Int)) :: l).length : Int) = _
    rw [flat_sum]
    refine congrArg List.sum (List.map_congr_left fun i _ => ?_)
    rw [List.length_map, los_cons, show r + (x.1 + loS L) - (x.1 + (i : Int)) = r - i + loS L by omega]
  rw [e, sum_back (hh_zero L)]
  unfold Dz
  rw [show r - (((x.2 - x.1 + 1).toNat : Nat) : Int) = r - (x.2 - x.1 + 1) by omega]
theorem hh_nil : hh [] = ez dl0 := by
  funext r
  unfold hh ez dl0 Gl
  show (((if r + 0 = 0 then [[]] else [] : List (List Int)).length : Nat) : Int) = _
  by_cases h : r = 0
  · subst h
    rfl
  · rw [if_neg (by omega)]
    show (0 : Int) = _
    split
    · rfl
    · rw [if_neg (by omega)]
theorem hh_all : ∀ L : List (Int × Int), (∀ x ∈ L, x.1 ≤ x.2) → hh L = DL (L.map fun x => x.2 - x.1) (PN L.length (ez dl0))
  | [], _ => hh_nil
  | x :: L, h => by
    have hw : ∀ w ∈ L.map (fun x => x.2 - x.1), 0 ≤ w := fun w hw => by
      obtain ⟨y, hy, rfl⟩ := List.mem_map.mp hw
      have := h y (.tail _ hy)
      omega
    rw [hh_cons (h x (.head _)), hh_all L fun y hy => h y (.tail _ hy), ← (dl_pz _ hw (pn_zero L.length (ez_zero dl0))).2] <;> rfl
theorem counts_ok : Counts := fun {u p ns} hu hp h2 => by
  have hn : 0 < ns.length := by omega
  have hH := due_head (u := u) (p := p) (ns := ns) hu hp hn
  unfold numP
  cases h : fitB p (stL p u ns)
  · rw [h, if_neg (by decide)] at hH
    rw [if_neg (by decide), List.head?_eq_none_iff.mp hH] <;> rfl
  obtain ⟨h1, h3, h4⟩ := fit_parts h
  have hl : (stL p u ns).length = ns.length := List.length_map _
  have hws : ∀ w ∈ (stL p u ns).map (fun x => x.2 - x.1), 0 ≤ w := fun w hw => by
    obtain ⟨y, hy, rfl⟩ := List.mem_map.mp hw
    have := h1 y hy
    omega
  have eD : dueL u ns p = Gl (stL p u ns) p := sorted_eq ((all_pair (by omega) ns.length).filter _) (gl_pair _ _) fun l => by
    rw [gl_mem]
    exact due_mem hu hp hn
  rw [if_pos rfl, ways_lots h1 (by omega) (by omega), eD]
  have e1 := ez_fold ((stL p u ns).map fun x => x.2 - x.1) dl0 hws
  rw [List.length_map, ← hh_all _ h1] at e1
  have e2 := congrFun e1 (p - loS (stL p u ns))
  have e3 : hh (stL p u ns) (p - loS (stL p u ns)) = ((Gl (stL p u ns) p).length : Int) := by
    unfold hh
    rw [show p - loS (stL p u ns) + loS (stL p u ns) = p by omega]
  rw [← e3, ← e2]
  show (if p - loS (stL p u ns) < 0 then 0 else _) = _
  rw [if_neg (by omega)] <;> rfl
end K70
namespace K70
open PySem PySem.Spec PyProof.Rows L2 Tc Px Py
theorem allB {α : Type} {l : List α} {p : α → Bool} (h : l.all p = true) {x : α} (hx : x ∈ l) : p x = true := List.all_eq_true.mp h x hx
section
variable {K : PySem.W.Frag} {h : Heap} {mg : Str → Option Value}
structure Parts (K : PySem.W.Frag) : Prop where
  funs' : ∀ x ∈ funs, (He.Fa.glo x).ok K = true
  free : ∀ x ∈ frees, (He.Fa.free x).ok K = true
  nums' : ∀ e ∈ nums, (He.Fa.int e.1 e.2).ok K = true
  whg : (He.Fa.glo "_WHOLES").ok K = true
  wht : He.tupB K "_WHOLES" [He.Dv.int 100, He.Dv.int 1000] = true
  cmb : He.eqO (PySem.W.nsIn K mainGlobals "comb") (some (some (.builtin "math.comb"))) = true
  vg : (He.Fa.glo "Poll").ok K = true
  mkk : mkB K "Poll" = true
  ins : insB K "Poll" = true
  na : ∀ f ∈ fields, NoAttr K (He.ga K "Poll") f
  pr : ∀ p ∈ props, propB K "Poll" p.1 = true
  sm : (K.lookup sysModules).isSome = true
theorem partsF (c : SaysC F fn K) : Parts K := by
  obtain ⟨z1, z⟩ := He.ba c.fact
  obtain ⟨z2, z⟩ := He.ba z
  obtain ⟨z3, z⟩ := He.ba z
  obtain ⟨z4, z⟩ := He.ba z
  obtain ⟨z5, z⟩ := He.ba z
  obtain ⟨z6, z⟩ := He.ba z
  obtain ⟨z7, z⟩ := He.ba z
  obtain ⟨z8, z9⟩ := He.ba z
  obtain ⟨z4, z4'⟩ := He.ba z4
  obtain ⟨z6, z6'⟩ := He.ba z6
  obtain ⟨z6', z6''⟩ := He.ba z6'
  exact ⟨fun x hx => allB z1 hx, fun x hx => allB z2 hx, fun e he => allB z3 he, z4, z4', z5, z6, z6', z6'', fun f hf => He.noat_ok (allB z7 hf), fun p hp => allB z8 hp, z9⟩
theorem writ_of (X : K.In h) (G : h.Ns mainGlobals mg) (c : Parts K) : Writ K mg "_WHOLES" (He.ga K "_WHOLES") [.int 100, .int 1000] :=
  ⟨He.glo_ok X G c.whg, _, fun H => He.tupB_ok c.wht H, fun _ => .cons (.int _) (.cons (.int _) .nil)⟩
theorem bltn_ok (X : K.In h) (G : h.Ns mainGlobals mg) {x : Str} {v : Value} (e : He.eqO (PySem.W.nsIn K mainGlobals x) (some (some v)) = true) : mg x = some v := PySem.W.mg_of X G (He.eqO_ok e)
theorem kls_of (c : Parts K) : KlsD K (He.ga K "Poll") := by
  obtain ⟨z1, z⟩ := He.ba c.ins
  obtain ⟨z2, z⟩ := He.ba z
  obtain ⟨z3, z⟩ := He.ba z
  obtain ⟨z4, z⟩ := He.ba z
  obtain ⟨z5, z⟩ := He.ba z
  obtain ⟨z6, z7⟩ := He.ba z
  exact ⟨⟨mkB_cls c.mkk, He.eqO_ok z1, He.eqO_ok z2, of_decide_eq_true z3, of_decide_eq_true z4, of_decide_eq_true z5⟩, z6, of_decide_eq_true z7⟩
end
section
variable {P : Program} {w : World} {K : PySem.W.Frag} {h base : Heap} {mg : Str → Option Value} {f : Addr}
theorem prop_of {j : Nat} {n fld : Str} (s : SaysC F fn K) (c : Parts K) {st : Stmt} {q : Str} (i : Nat) (hi : fn[i]? = some ⟨.prop "Poll" n, n, q, st⟩) (hn : propB K "Poll" n = true) (S : FnScope ["self"] ["self"] (defScope st)) {p1 p2 p3 : Pos} (hb : defBody st = [.Return (some (.Attribute (.Name "self" p1) fld p2)) p3]) (no : NoAttr K (He.ga K "Poll") fld) (bd : ∀ (kV doc pm : Value) (an : Option Addr) (cdv ct : Value) (us : List Value), us.length = 1 → bindArgs (PySem.W.fnOf n q (defArgs st) (defBody st) (defScope st) .none kV doc pm an cdv ct) ⟨us, []⟩ = pure ((["self"] : List Str).zip us)) : PropD P w K mg base (He.ga K "Poll") n fld (j + 1) := by
  obtain ⟨fd, Fx⟩ := s.fun_ i hi
  have bb := Fx.binds (ps := ["self"]) bd
  obtain ⟨oc, od, kV, doc, pm, an, cdv, ct, osl, e, lk, hcd⟩ := id Fx.ex
  subst e
  exact ⟨⟨_, _, _, propB_ok hn, fn_getter lk hcd S rfl hb (mkB_cls c.mkk) no, bb⟩, mkB_cls c.mkk⟩
theorem facts (X : K.In h) (G : h.Ns mainGlobals mg) (hfa : mg ("law" : Str) = some (.ref f)) (s : SaysC F fn K) :
    ∃ fd : FuncData, (∀ (s : Shared) (v : Value), BindsTo s fd ⟨[v], []⟩ [("_law_script", v)]) ∧
      ∀ base : Heap, K.In base → base.Ns mainGlobals mg → FnG P w K mg base CX0 9 f fd ["_law_script"] (spLaw K) := by
  have c := partsF s
  have fr : ∀ x : Str, x ∈ frees → mg x = none := fun x hx => He.free_ok X G (c.free x hx)
  have B : Gls mg := ⟨fr _ (by decide +kernel), fr _ (by decide +kernel), fr _ (by decide +kernel), fr _ (by decide +kernel), fr _ (by decide +kernel), fr _ (by decide +kernel), fr _ (by decide +kernel), fr _ (by decide +kernel), fr _ (by decide +kernel), fr _ (by decide +kernel), fr _ (by decide +kernel), fr _ (by decide +kernel), fr _ (by decide +kernel), fr _ (by decide +kernel), fr _ (by decide +kernel), fr _ (by decide +kernel), fr _ (by decide +kernel), fr _ (by decide +kernel), fr _ (by decide +kernel), fr _ (by decide +kernel), fr _ (by decide +kernel)⟩
  have WW := writ_of X G c
  have KV := kls_of c
  have CL := mkB_cls c.mkk
  have gV : mg "Poll" = some (.ref (He.ga K "Poll")) := He.glo_ok X G c.vg
  have ms : ∃ t, mg "MOST_SHARES" = some (.int 6 t) := He.int_ok X G (c.nums' ("MOST_SHARES", 6) (.head _))
  have ls : ∃ t, mg "_LEAST_SHARES" = some (.int 2 t) := He.int_ok X G (c.nums' ("_LEAST_SHARES", 2) (.tail _ (.head _)))
  have gC : mg "comb" = some (.builtin "math.comb") := bltn_ok X G c.cmb
  have SM := Option.isSome_iff_exists.mp c.sm
  have gl : ∀ x : Str, x ∈ funs → mg x = some (.ref (He.ga K x)) := fun x hx => He.glo_ok X G (c.funs' x hx)
  obtain ⟨fd0, F0⟩ := s.fun_ 0 (w := .glo "is_integer") (st := s_is_integer) (x := "is_integer") (q := "is_integer") rfl
  obtain ⟨fd1, F1⟩ := s.fun_ 1 (w := .glo "is_number") (st := s_is_number) (x := "is_number") (q := "is_number") rfl
  obtain ⟨fd2, F2⟩ := s.fun_ 2 (w := .glo "need_people") (st := s_need_people) (x := "need_people") (q := "need_people") rfl
  obtain ⟨fd3, F3⟩ := s.fun_ 3 (w := .glo "whole_of") (st := s_whole_of) (x := "whole_of") (q := "whole_of") rfl
  obtain ⟨fd4, F4⟩ := s.fun_ 4 (w := .glo "_need_poll_places") (st := s_need_poll_places) (x := "_need_poll_places") (q := "_need_poll_places") rfl
  obtain ⟨fd5, F5⟩ := s.fun_ 5 (w := .glo "_is_share") (st := s_is_share) (x := "_is_share") (q := "_is_share") rfl
  obtain ⟨fd6, F6⟩ := s.fun_ 6 (w := .glo "_need_shares") (st := s_need_shares) (x := "_need_shares") (q := "_need_shares") rfl
  obtain ⟨fd7, F7⟩ := s.fun_ 7 (w := .glo "need_poll") (st := s_need_poll) (x := "need_poll") (q := "need_poll") rfl
  obtain ⟨fd8, F8⟩ := s.fun_ 8 (w := .glo "counts_with") (st := s_counts_with) (x := "counts_with") (q := "counts_with") rfl
  obtain ⟨fd9, F9⟩ := s.fun_ 9 (w := .glo "_count_stretches") (st := s_count_stretches) (x := "_count_stretches") (q := "_count_stretches") rfl
  obtain ⟨fd10, F10⟩ := s.fun_ 10 (w := .glo "_stretches_for") (st := s_stretches_for) (x := "_stretches_for") (q := "_stretches_for") rfl
  obtain ⟨fd11, F11⟩ := s.fun_ 11 (w := .glo "first_counts") (st := s_first_counts) (x := "first_counts") (q := "first_counts") rfl
  obtain ⟨fd12, F12⟩ := s.fun_ 12 (w := .glo "count_ranges") (st := s_count_ranges) (x := "count_ranges") (q := "count_ranges") rfl
  obtain ⟨fd13, F13⟩ := s.fun_ 13 (w := .glo "pollings_number") (st := s_pollings_number) (x := "pollings_number") (q := "pollings_number") rfl
  obtain ⟨fd14, F14⟩ := s.fun_ 14 (w := .glo "_law_well") (st := s_lwell) (x := "_law_well") (q := "_law_well") rfl
  obtain ⟨fd15, F15⟩ := s.fun_ 15 (w := .glo "_law_draw") (st := s_ldraw) (x := "_law_draw") (q := "_law_draw") rfl
  obtain ⟨fd16, F16⟩ := s.fun_ 16 (w := .glo "_law_of") (st := s_lof) (x := "_law_of") (q := "_law_of") rfl
  obtain ⟨fd17, F17⟩ := s.fun_ 17 (w := .glo "_law_near") (st := s_lnear) (x := "_law_near") (q := "_law_near") rfl
  obtain ⟨fd18, F18⟩ := s.fun_ 18 (w := .glo "_law_tried") (st := s_ltried) (x := "_law_tried") (q := "_law_tried") rfl
  obtain ⟨fd19, F19⟩ := s.fun_ 19 (w := .glo "_law_dealt") (st := s_ldealt) (x := "_law_dealt") (q := "_law_dealt") rfl
  obtain ⟨fd20, F20⟩ := s.fun_ 20 (w := .glo "_law_shares") (st := s_lshares) (x := "_law_shares") (q := "_law_shares") rfl
  obtain ⟨fd21, F21⟩ := s.fun_ 21 (w := .glo "_law_found") (st := s_lfound) (x := "_law_found") (q := "_law_found") rfl
  obtain ⟨fd22, F22⟩ := s.fun_ 22 (w := .glo "_law_ends") (st := s_lends) (x := "_law_ends") (q := "_law_ends") rfl
  obtain ⟨fd23, F23⟩ := s.fun_ 23 (w := .glo "_law_ways") (st := s_lways) (x := "_law_ways") (q := "_law_ways") rfl
  obtain ⟨fd24, F24⟩ := s.fun_ 24 (w := .glo "_law_reckoned") (st := s_lreckoned) (x := "_law_reckoned") (q := "_law_reckoned") rfl
  obtain ⟨fd25, F25⟩ := s.fun_ 25 (w := .glo "_law_told_right") (st := s_ltold_right) (x := "_law_told_right") (q := "_law_told_right") rfl
  obtain ⟨fd26, F26⟩ := s.fun_ 26 (w := .glo "_law_right") (st := s_lright) (x := "_law_right") (q := "_law_right") rfl
  obtain ⟨fd27, F27⟩ := s.fun_ 27 (w := .glo "law") (st := s_law) (x := "law") (q := "law") rfl
  obtain ⟨fi, Fi⟩ := s.fun_ 28 (w := .meth "Poll" "__init__") (st := m_init) (x := "__init__") (q := "Poll.__init__") rfl
  have e := hfa.symm.trans (gl "law" (by decide +kernel))
  cases e
  refine ⟨fd27, fun s v => ?_, fun base _ _ => ?_⟩
  · obtain ⟨oc, od, kV, doc, pm, an, cdv, ct, osl, rfl, lk, hcd⟩ := F27.ex
    exact .of_eq rfl
  have DP : PropD P w K mg base (He.ga K "Poll") "places" "_places" 1 := prop_of s c (st := m_places) (q := "Poll.places") 29 rfl (c.pr (pl1 "places" 2) (by unfold props; exact .head _)) ⟨rfl, rfl, rfl, by decide +kernel, rfl, by decide +kernel, by decide +kernel⟩ rfl (c.na "_places" (by unfold fields; exact .head _)) (fun kV doc pm an cdv ct us hl => match us, hl with | [u], _ => rfl)
  have DS : PropD P w K mg base (He.ga K "Poll") "shares" "_shares" 1 := prop_of s c (st := m_shares) (q := "Poll.shares") 30 rfl (c.pr (pl1 "shares" 3) (by unfold props; exact .tail _ (.head _))) ⟨rfl, rfl, rfl, by decide +kernel, rfl, by decide +kernel, by decide +kernel⟩ rfl (c.na "_shares" (by unfold fields; exact .tail _ (.head _))) (fun kV doc pm an cdv ct us hl => match us, hl with | [u], _ => rfl)
  have D_is_integer := Call.of F0 (ok_is_integer (P := P) (w := w) (base := base) F0 SM B) (gl "is_integer" (by decide +kernel)) (fun kV doc pm an cdv ct us hl => match us, hl with | [u], _ => rfl)
  have D_is_number := Call.of F1 (ok_is_number D_is_integer F1 SM B) (gl "is_number" (by decide +kernel)) (fun kV doc pm an cdv ct us hl => match us, hl with | [u], _ => rfl)
  have D_need_people := Call.of F2 (ok_need_people D_is_integer F2 SM B) (gl "need_people" (by decide +kernel)) (fun kV doc pm an cdv ct us hl => match us, hl with | [u, v], _ => rfl)
  have D_whole_of := Call.of F3 (ok_whole_of (P := P) (w := w) (base := base) WW F3 SM B) (gl "whole_of" (by decide +kernel)) (fun kV doc pm an cdv ct us hl => match us, hl with | [u], _ => rfl)
  have D_need_poll_places := Call.of F4 (ok_need_poll_places WW D_is_number F4 SM B) (gl "_need_poll_places" (by decide +kernel)) (fun kV doc pm an cdv ct us hl => match us, hl with | [u], _ => rfl)
  have D_is_share := Call.of F5 (ok_is_share D_is_number F5 SM B) (gl "_is_share" (by decide +kernel)) (fun kV doc pm an cdv ct us hl => match us, hl with | [u, v], _ => rfl)
  have D_counts_with := Call.of F8 (ok_counts_with (P := P) (w := w) (base := base) F8 SM B) (gl "counts_with" (by decide +kernel)) (fun kV doc pm an cdv ct us hl => match us, hl with | [u, v, x1], _ => rfl)
  have D_need_shares := Call.of F6 (ok_need_shares ms ls D_is_share F6 SM B) (gl "_need_shares" (by decide +kernel)) (fun kV doc pm an cdv ct us hl => match us, hl with | [u, v], _ => rfl)
  have D_need_poll := Call.of F7 (ok_need_poll (P := P) (w := w) (base := base) gV KV F7 SM B) (gl "need_poll" (by decide +kernel)) (fun kV doc pm an cdv ct us hl => match us, hl with | [u], _ => rfl)
  have MV : MakeD P w K mg base 5 "Poll" (He.ga K "Poll") 2 ["self", "places", "shares"] prePoll (fun ds => .ok (pollF ds)) := ⟨⟨_, fi, mkB_mk c.mkk, ok_init CL (c.na "_places" (.head _)) (c.na "_shares" (.tail _ (.head _))) (c.na "_text" (.tail _ (.tail _ (.head _)))) D_need_poll_places D_need_shares D_whole_of Fi SM B, Fi.binds (fun kV doc pm an cdv ct us hl => match us, hl with | [u, v, x1], _ => rfl)⟩, gV⟩
  have D_count_stretches := Call.of F9 (ok_count_stretches DP DS D_whole_of D_counts_with F9 SM B) (gl "_count_stretches" (by decide +kernel)) (fun kV doc pm an cdv ct us hl => match us, hl with | [u, v], _ => rfl)
  have D_stretches_for := Call.of F10 (ok_stretches_for D_need_poll D_need_people D_count_stretches F10 SM B) (gl "_stretches_for" (by decide +kernel)) (fun kV doc pm an cdv ct us hl => match us, hl with | [u, v], _ => rfl)
  have D_first_counts := Call.of F11 (ok_first_counts D_stretches_for F11 SM B) (gl "first_counts" (by decide +kernel)) (fun kV doc pm an cdv ct us hl => match us, hl with | [u, v], _ => rfl)
  have okCr := ok_count_ranges D_stretches_for F12 SM B
  have D_count_ranges := Call.of F12 (okCr) (gl "count_ranges" (by decide +kernel)) (fun kV doc pm an cdv ct us hl => match us, hl with | [u, v], _ => rfl)
  have D_count_rangesR : CallR P w K mg base (L2.CX P w) 5 "count_ranges" ["poll", "people"] (spF 2 (preCs (He.ga K "Poll")) fun ds => .ok (rangesD ds)) ["people", "poll"] := by
    refine ⟨_, fd12, okCr, (gl "count_ranges" (by decide +kernel)), F12.kp, fun s us hl => ?_⟩
    obtain ⟨oc, od, kV, doc, pm, an, cdv, ct, osl, rfl, lk, hcd⟩ := F12.ex
    match us, hl with
    | [u, v], _ => exact .of_eq rfl
  have okPn := ok_pollings_number gC D_stretches_for F13 SM B
  have D_pollings_number := Call.of F13 (okPn) (gl "pollings_number" (by decide +kernel)) (fun kV doc pm an cdv ct us hl => match us, hl with | [u, v], _ => rfl)
  have D_pollings_numberR : CallR P w K mg base (L2.CX P w) 5 "pollings_number" ["poll", "people"] (spF 2 (preCs (He.ga K "Poll")) fun ds => .ok (numD ds)) ["people", "poll"] := by
    refine ⟨_, fd13, okPn, (gl "pollings_number" (by decide +kernel)), F13.kp, fun s us hl => ?_⟩
    obtain ⟨oc, od, kV, doc, pm, an, cdv, ct, osl, rfl, lk, hcd⟩ := F13.ex
    match us, hl with
    | [u, v], _ => exact .of_eq rfl
  have D_lwell := Call.of F14 (.of (ok_well (P := P) (w := w) (base := base) F14 B)) (gl "_law_well" (by decide +kernel)) (fun kV doc pm an cdv ct us hl => match us, hl with | [u, v], _ => rfl)
  have D_ldraw := Call.of F15 (ok_draw (P := P) (w := w) (base := base) F15 SM B) (gl "_law_draw" (by decide +kernel)) (fun kV doc pm an cdv ct us hl => match us, hl with | [u, v], _ => rfl)
  have D_lof := Call.of F16 (ok_of D_ldraw F16 SM B) (gl "_law_of" (by decide +kernel)) (fun kV doc pm an cdv ct us hl => match us, hl with | [u, v], _ => rfl)
  have D_lnear := Call.of F17 (ok_near (P := P) (w := w) (base := base) F17 SM B) (gl "_law_near" (by decide +kernel)) (fun kV doc pm an cdv ct us hl => match us, hl with | [u, v, x1], _ => rfl)
  have D_ltried := Call.of F18 (ok_tried (P := P) (w := w) (base := base) F18 SM B) (gl "_law_tried" (by decide +kernel)) (fun kV doc pm an cdv ct us hl => match us, hl with | [u, v], _ => rfl)
  have D_ldealt := Call.of F19 (ok_dealt D_ldraw F19 SM B) (gl "_law_dealt" (by decide +kernel)) (fun kV doc pm an cdv ct us hl => match us, hl with | [u, v, x1], _ => rfl)
  have D_lshares := Call.of F20 (ok_shares D_ldraw D_ldealt D_lnear F20 SM B) (gl "_law_shares" (by decide +kernel)) (fun kV doc pm an cdv ct us hl => match us, hl with | [u, v, x1, x2], _ => rfl)
  have D_lfound := Call.of F21 (ok_found sides_ok counts_ok D_lnear D_ltried F21 SM B) (gl "_law_found" (by decide +kernel)) (fun kV doc pm an cdv ct us hl => match us, hl with | [u, v, x1], _ => rfl)
  have D_lends := Call.of F22 (ok_ends (P := P) (w := w) (base := base) F22 SM B) (gl "_law_ends" (by decide +kernel)) (fun kV doc pm an cdv ct us hl => match us, hl with | [u, v, x1], _ => rfl)
  have D_lways := Call.of F23 (ok_ways (P := P) (w := w) (base := base) F23 SM B) (gl "_law_ways" (by decide +kernel)) (fun kV doc pm an cdv ct us hl => match us, hl with | [u, v], _ => rfl)
  have D_lreckoned := Call.of F24 (ok_reckoned D_lends D_lways F24 SM B) (gl "_law_reckoned" (by decide +kernel)) (fun kV doc pm an cdv ct us hl => match us, hl with | [u, v, x1], _ => rfl)
  have D_ltold_right := Call.of F25 (ok_told_right MV D_count_ranges D_count_rangesR D_pollings_number D_pollings_numberR D_first_counts F25 SM B) (gl "_law_told_right" (by decide +kernel)) (fun kV doc pm an cdv ct us hl => match us, hl with | [u, v, x1, x2], _ => rfl)
  have D_lright := Call.of F26 (ok_right ways_ok bound_ok D_ldraw D_lof D_lshares D_lfound D_lreckoned D_ltold_right F26 SM B) (gl "_law_right" (by decide +kernel)) (fun kV doc pm an cdv ct us hl => match us, hl with | [u], _ => rfl)
  exact ok_law F27 B D_lwell D_lright
end
end K70
end
open PySem PySem.W PySem.Calls PyProof.Rows
theorem PySem.Challenge.cw_toldcounts_k70_whole_ranges_and_numbers_holds : PySem.Challenge.rw_toldcounts_k70_whole_ranges_and_numbers.Holds := by
  w_on; o_law
  refine HandSHeadRun.head_imp (r := OpenLaw.row PySem.Challenge.rw_toldcounts_k70_whole_ranges_and_numbers) (q := view K70.R.prog [0, 44]) (H := K70.hk) (ob := K70.ob)
    (M := 14000) (loose := K70.loose) (d := HandSHeadRun.topDef K70.R.prog 44) (kwd := []) K70.ob_eq
    K70.run (by kernel_rfl) (by kernel_rfl) (by kernel_rfl) (by rfl) (by first | assumption | decide +kernel) (by decide +kernel)
    ⟨rfl, rfl, rfl, rfl, rfl, by decide +kernel⟩ ?hw ?hc
  case hw => w_witness2
  case hc =>
    refine Tc.walk_endTG (l := PySem.Challenge.rw_toldcounts_k70_whole_ranges_and_numbers) (n := 63) (k := 9) (x := "_law_script") (CX := fun _ => L2.CX0)
      rfl (by decide) (by kernel_rfl) ⟨rfl, by decide, by decide⟩ ?F (fun _ _ _ _ _ z => z)
    intro w mg fa h Y G hmg0
    obtain ⟨K, KX, c⟩ := Y
    have nm : (HandSHeadRun.topDef K70.R.prog 44).name = ("law" : PySem.Str) := by kernel_rfl
    rw [nm] at hmg0
    obtain ⟨fd, hb, hF⟩ := K70.facts (P := (PySem.Challenge.rw_toldcounts_k70_whole_ranges_and_numbers).prog) (w := w) KX G hmg0 c.core
    exact ⟨K, fd, [], K70.spLaw K, KX, hb, ⟨fun p hp => (nomatch hp), fun p hp => (nomatch hp), fun p hp => (nomatch hp)⟩, fun base k1 k2 _ => hF base k1 k2, fun H a ns hl _ hS => ⟨a, ns, rfl, hS, hl, fun _ => rfl⟩⟩
