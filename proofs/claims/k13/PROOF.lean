import PyProof.Rows.All
import Wide.All
import OpenK.AllK
import Wide.FinOn
import HandS.ForMost
import HandS.ForExc
import HandS.ExcInit
import HandS.ExcField
import HandS.IsInst
import HandS.StrMore
import HandS.FStr
import HandS.Conv
import KE.KExcInit
import HandS.ExcIs
import KE.KExcIs
import HandS.ExcValue
import PyProof.ExcBaseAll.ValueError
import PyProof.ExcBaseAll.LookupError
import PyProof.ExcBaseAll.ArithmeticError
import KE.KStateDown
import HandS.Defaults
import HandS.Head0
import HandS.Head1
import HandS.Head2
import HandS.HeadHook1
import KE.KTryMore
import HandS.Exc
import HandS.Lambda
import HandS.WordsExc
import HandS.SetFor
import HandS.Evl
import PyProof.EqKinds
import HandS.Walk
import PyProof.Rows.Chain
import HandS.HeadHook4
import HandS.EndTab
import HandS.Property
import HandS.ClsMeth
import HandS.MakeKwOnly
import HandS.HeadHook2
import HandS.Codes
import HandS.Text
import KE.IntTextText
import PyProof.Rows.RegFStrParts
import PyProof.ListStr
import HandS.TryMany
import HandS.Comp
import HandS.Iter
import KE.KxIndex
import HandS.WideBits
import HandS.NoneIn
import HandS.TupAny
import HandS.TupMul
import HandS.Zip
import KE.DataMinMax
import HandS.List
import HandS.SortInts
import HandS.RaiseMore
import HandS.Dict
import HandS.HotCalls
import HandS.Star
import HandS.Style
import PyProof.EnumMake
import PyProof.Draws
import KE.KxText
import HandS.Gcd
import KE.GoesNew
import HandS.Strs
import PyProof.MeetsSeq2
import HandS.RepeatKit
import HandS.Rev
import HandS.Deep
import HandS.OwnEq
import PyProof.InstEq
import HandS.TupSets
import HandS.SortRule
import HandS.RevRange
import HandS.HeadEnd
import PySem.Challenge.RW_toldcounts_k13_whole_guesses_for_areas
set_option Elab.async false
set_option linter.all false
set_option maxRecDepth 100000
set_option maxHeartbeats 0
/-! Defs that may show things: no repr runs around them (the guards are known to be none). -/
namespace Tc
open PySem PySem.Spec PyProof.Rows L2
/-- as a def's promise, for callers that no repr runs around -/
structure FnG (P : Program) (w : World) (K : PySem.W.Frag) (mg : Str → Option Value) (base : Heap)
    (CX : CXT) (k : Nat) (f : Addr) (fd : FuncData) (ps : List Str) (sp : Sp) : Prop where
  len : ∀ vs H Q E, sp vs H Q E → vs.length = ps.length
  run : ∀ (A : Around) (outer : List Env) (s : Shared) (H : Hp) (args : Args) (us : List Value)
    (vs : List V) (Q : VK) (E : XK), Room k A → A.guards = some [] →
    Env0 P w K mg base A outer s H → BindsTo s fd args (ps.zip us) → Vals vs us → sp vs H Q E →
    codeAny (model P w) A (.call (.ref f) args) (CR CX outer P w H s Q E) s
theorem FnG.of {P : Program} {w : World} {K : PySem.W.Frag} {mg : Str → Option Value} {base : Heap}
    {CX : CXT} {k : Nat} {f : Addr} {fd : FuncData} {ps : List Str} {sp : Sp}
    (F : FnOk P w K mg base CX k f fd ps sp) : FnG P w K mg base CX k f fd ps sp :=
  ⟨F.len, fun A o s H args us vs Q E hr _ => F.run A o s H args us vs Q E hr⟩
theorem FnG.mono {P : Program} {w : World} {K : PySem.W.Frag} {mg : Str → Option Value} {base : Heap}
    {CX : CXT} {j k : Nat} {f : Addr} {fd : FuncData} {ps : List Str} {sp : Sp}
    (F : FnG P w K mg base CX j f fd ps sp) (h : j ≤ k) : FnG P w K mg base CX k f fd ps sp :=
  ⟨F.len, fun A o s H args us vs Q E hr => F.run A o s H args us vs Q E (hr.mono h)⟩
section
variable {P : Program} {w : World} {K : PySem.W.Frag} {mg : Str → Option Value} {base : Heap}
theorem Fun.okG {CX : CXT} {x qual : Str} {st : Stmt} {f : Addr} {fd : FuncData} {N ps : List Str}
    {k : Nat} {sp : Sp} (F : Fun K x qual st f fd) (S : FnScope N ps (defScope st))
    (len : ∀ vs H Q E, sp vs H Q E → vs.length = ps.length)
    (hbody : ∀ (cdv : Value) (A : Around) (outer : List Env) (s : Shared) (H : Hp) (vs : List V)
      (Q : VK) (E : XK), Room k (A.deeper (envOfC qual (defScope st) s.heap.objs.size f cdv)) →
      (A.deeper (envOfC qual (defScope st) s.heap.objs.size f cdv)).guards = some [] →
      sp vs H Q E →
      ∃ t, PSs (cxOf CX P w K mg base N qual (defScope st) f cdv A outer s H E) (defBody st) t ∧
        t { nx := fun _ H' => Q .non H', rt := Q } (start N vs) H) :
    FnG P w K mg base CX (k + 1) f fd ps sp := by
  obtain ⟨oc, od, kV, doc, pm, an, cdv, ct, osl, rfl, lk, hcd⟩ := F.ex
  refine ⟨len, ?_⟩
  intro A outer s H args us vs Q E hr hgd e0 hb r hsp
  have vl := len _ _ _ _ hsp
  have kin : K.In s.heap := e0.mod.kin.keeps (fun b o e => (e0.bs b o e).1)
  have nlim : s.heap.NoLimit := e0.mod.nolimit.keeps (fun b o e => (e0.bs b o e).1)
  have kinds : ∀ y ∈ ps.zip us, (defScope st).names.lookup y.1 = some .local ∨
      ((defScope st).names.lookup y.1 = some .cell ∧
        ((cellsFrom (s.heap.objs.size + 1) (defScope st).names []).lookup y.1).isSome = true) := by
    rintro ⟨n, v⟩ hy
    cases S.par n (List.of_mem_zip hy).1 with
    | inl q => exact .inl q
    | inr q => exact .inr ⟨q, PySem.W.cellsFrom_some _ _ _ (.inl q)⟩
  refine codeAny_call_function hr.depth (kin _ _ lk) rfl S.co S.gen rfl
    (PySem.W.codeRec_of kin hcd) (hb _ _ _ _ ?_)
  refine wpAny_newFunctionEnv_cells S.kind kinds (fun env he s1 x => ?_)
  subst he
  refine ⟨nlim.keeps x.toInCall.keep, codeAny_func ?_⟩
  obtain ⟨t, ht, hq⟩ := hbody cdv A outer s H vs Q E (hr.deeper _) hgd hsp
  have I := inv_start (CX := CX) (P := P) (w := w) (mg := mg) (base := base) (E := E) S hr.hd e0 vl r x
  refine wpAny_mono (ht.run [] s1 (start N vs) H _ I hq) (fun fl s' hs => ?_) (fun e s' hs => hs)
  have close : ∀ {σ' : L2.St} {H' : Hp} {v : V} {u : Value},
      Inv (cxOf CX P w K mg base N qual (defScope st) f cdv A outer s H E) [] σ' H' s' →
      RelV v u → Q v H' → CE outer P w H s Q u s' := by
    intro σ' H' v u J rv q
    exact ⟨v, H', J.os, J.bare, J.base, J.hok, rv, q⟩
  cases fl with
  | ret u => obtain ⟨v, σ', H', J, rv, q⟩ := hs; exact close J rv q
  | next => obtain ⟨σ', H', J, q⟩ := hs; exact close (v := V.non) (u := Value.none) J rfl q
  | brk => obtain ⟨_, _, _, q⟩ := hs; exact False.elim q
  | cont => obtain ⟨_, _, _, q⟩ := hs; exact False.elim q
end
section
variable {X : Cx} {CX : CXT} {k : Nat} {f : Addr} {fd : FuncData} {ps : List Str} {sp : Sp}
  {dvs : List V} {ds : List Value} {E : XK} {x : Str} {p pos : Pos} {e : Expr} {es : List Expr} {t : TA}
theorem run_fnG {pins : List (Addr × Obj)} {σ : L2.St} {H : Hp} {s : Shared} {Q : VK}
    {us : List Value} {vs : List V} (F : FnG X.prog X.w X.K X.mg X.base CX k f fd ps sp)
    (hr : Room k X.A) (hgd : X.A.guards = some []) (hb : Binds X.K fd ps ds) (hd : Vals dvs ds)
    (hx : Passes CX X E) (I : Inv X pins σ H s) (r : Vals vs us) (h : sp (vs ++ dvs) H Q E) :
    wpAny (model X.prog X.w) X.A (call (.ref f) us) (EP X pins σ Q) X.xe s := by
  have both : Vals (vs ++ dvs) (us ++ ds) := r.append hd
  have hl : (us ++ ds).length = ps.length := both.length ▸ F.len _ _ _ _ h
  have main := F.run X.A X.stack s H ⟨us, []⟩ (us ++ ds) (vs ++ dvs) Q E hr hgd I.env0
    (hb s us I.kIn hl) both h
  refine wpAny_call (codeAny_mono main ?_)
  intro res s' hq
  cases res with
  | error er => exact hx pins σ H s er s' I hq
  | ok fl =>
    cases fl with
    | ret u => exact I.after hq
    | next | brk | cont => exact False.elim hq
theorem pe_callG (F : FnG X.prog X.w X.K X.mg X.base CX k f fd ps sp) (hr : Room k X.A)
    (hgd : X.A.guards = some []) (hg : Gl X x) (hm : X.mg x = some (.ref f))
    (hk : PySem.W.keepIn X.K (.ref f) = true) (hb : Binds X.K fd ps ds) (hd : Vals dvs ds)
    (hx : Passes CX X E) (ha : PA X (e :: es) t)
    (hdb : (x == ("__debug__" : Str)) = false := by decide)
    (he : starEach (e :: es) X.env = (false, eval e X.env) :: starEach es X.env := by rfl)
    (hpl : (backTo pos (starEach es X.env)).any (·.1) = false := by rfl) :
    PE X (.Call (.Name x p) (e :: es) [] pos) (tCall sp dvs E t) := by
  constructor
  intro pins s σ H Q I h
  have args := ha.run pos pins s σ H _ I h
  refine wpAny_Call_Name_kw (ld_glob I hg hm ?_ hdb)
  refine PySem.W.callWith_K (h₀ := X.base) I.ok.mod.kin hk (thn args ?_) he hpl
  rintro us s1 ⟨vs, H1, I1, r, q⟩
  exact ⟨I1.kIn, run_fnG F hr hgd hb hd hx I1 r q⟩
end
end Tc
/-! Data at any depth, dicts too; what repr makes of them. -/
namespace Tc
open PySem PySem.Spec PyProof.Rows L2
def kD : Key → PyData
  | .inl i => .int i
  | .inr x => .str x
/-- a key that no dict of data has: an instance stands there as a dict that begins with it -/
def markN : Nat := 2 ^ 2000
abbrev markD : PyData := .tuple [.int (.ofNat markN)]
/-- an instance of the class at C, as data -/
abbrev inst (C : Addr) (fs : List (PyData × PyData)) : PyData := .dict ((markD, .int (.ofNat C)) :: fs)
/-- a tuple that is known to have no attributes of its own, as data -/
abbrev clnD (ds : List PyData) : PyData := .dict [(markD, .tuple ds)]
/-- no instance (at the top) -/
def notI : PyData → Bool
  | .dict ((.tuple _, _) :: _) => false
  | _ => true
mutual
/-- the value is this data, all of it tracked -/
inductive Dv (H : Hp) : V → PyData → Prop
  | non : Dv H .non .none
  | bl (b : Bool) : Dv H (.bl b) (.bool b)
  | int (i : Int) : Dv H (.int i) (.int i)
  | str (x : Str) : Dv H (.str x) (.str x)
  | lst {a : Addr} {xs : List V} {ds : List PyData} : Rd H a (.lst xs) → DvAll H xs ds → Dv H (.ref a) (.list ds)
  | tup {a : Addr} {xs : List V} {ds : List PyData} : Rd H a (.tup xs) → DvAll H xs ds → Dv H (.ref a) (.tuple ds)
  | dct {a : Addr} {kvs : List (Key × V)} {ds : List (PyData × PyData)} : Rd H a (.dK kvs) → DvKv H kvs ds → Dv H (.ref a) (.dict ds)
  | ins {a C dx : Addr} {gs : List (Str × V)} {ds : List (PyData × PyData)} : H a = some (.ins C dx gs) → DvNm H gs ds → Dv H (.ref a) (.dict ((.tuple [.int (.ofNat markN)], .int (.ofNat C)) :: ds))
  | cln {a : Addr} {o : Obj} {xs : List V} {ds : List PyData} : H a = some (.frz o (.tup xs)) → o.dict = none → DvAll H xs ds → Dv H (.ref a) (.dict [(.tuple [.int (.ofNat markN)], .tuple ds)])
inductive DvNm (H : Hp) : List (Str × V) → List (PyData × PyData) → Prop
  | nil : DvNm H [] []
  | cons {f : Str} {v : V} {gs : List (Str × V)} {d : PyData} {ds : List (PyData × PyData)} : Dv H v d → DvNm H gs ds → DvNm H ((f, v) :: gs) ((.str f, d) :: ds)
inductive DvAll (H : Hp) : List V → List PyData → Prop
  | nil : DvAll H [] []
  | cons {v : V} {vs : List V} {d : PyData} {ds : List PyData} : Dv H v d → DvAll H vs ds → DvAll H (v :: vs) (d :: ds)
inductive DvKv (H : Hp) : List (Key × V) → List (PyData × PyData) → Prop
  | nil : DvKv H [] []
  | cons {k : Key} {v : V} {kvs : List (Key × V)} {d : PyData} {ds : List (PyData × PyData)} : Dv H v d → DvKv H kvs ds → DvKv H ((k, v) :: kvs) ((kD k, d) :: ds)
end
theorem rd_ne {H : Hp} {a : Addr} {u : HO} (h : Rd H a u) (hs : H sysModules = none) : a ≠ sysModules := by
  rintro rfl
  rcases h with h | ⟨o, h⟩ <;> (rw [hs] at h; cases h)
/-- data without instances, at any depth -/
structure Clean (C : PyData → Prop) : Prop where
  lst : ∀ xs, C (.list xs) → ∀ x ∈ xs, C x
  tup : ∀ xs, C (.tuple xs) → ∀ x ∈ xs, C x
  dct : ∀ kvs, C (.dict kvs) → ∀ p ∈ kvs, C p.2
  no : ∀ c ds, ¬ C (.dict ((.tuple [.int (.ofNat markN)], c) :: ds))
theorem all_show {xs : List PyData} (h : PyData.showableAll xs = true) : ∀ x ∈ xs, x.showable = true := by
  induction xs with
  | nil => intro x hx; cases hx
  | cons y ys ih =>
    intro x hx
    obtain ⟨h1, h2⟩ : y.showable = true ∧ PyData.showableAll ys = true := by simpa [PyData.showableAll] using h
    cases hx with
    | head => exact h1
    | tail _ q => exact ih h2 x q
theorem kv_show {kvs : List (PyData × PyData)} (h : PyData.showableKv kvs = true) : ∀ p ∈ kvs, p.1.showable = true ∧ p.2.showable = true := by
  induction kvs with
  | nil => intro x hx; cases hx
  | cons y ys ih =>
    intro x hx
    obtain ⟨⟨h1, h2⟩, h3⟩ : (y.1.showable = true ∧ y.2.showable = true) ∧ PyData.showableKv ys = true := by simpa [PyData.showableKv] using h
    cases hx with
    | head => exact ⟨h1, h2⟩
    | tail _ q => exact ih h3 x q
theorem mark_show : PyData.showable (.tuple [.int (.ofNat markN)]) = false := by decide +kernel
theorem clean_show : Clean fun d => d.showable = true := ⟨fun xs h => all_show h, fun xs h => all_show h, fun kvs h p hp => (kv_show h p hp).2, fun c ds h => by
  have z := (kv_show h _ (.head _)).1
  rw [mark_show] at z
  cases z⟩
theorem all_noDict {xs : List PyData} (h : PyData.hasDictAll xs = false) : ∀ x ∈ xs, x.hasDict = false := by
  induction xs with
  | nil => intro x hx; cases hx
  | cons y ys ih =>
    intro x hx
    obtain ⟨h1, h2⟩ : y.hasDict = false ∧ PyData.hasDictAll ys = false := by simpa [PyData.hasDictAll] using h
    cases hx with
    | head => exact h1
    | tail _ q => exact ih h2 x q
theorem clean_noDict : Clean fun d => d.hasDict = false := ⟨fun xs h => all_noDict h, fun xs h => all_noDict h, fun kvs h => absurd (show true = false from h) (by decide), fun c ds h => absurd (show true = false from h) (by decide)⟩
section
variable {X : Cx} {pins : List (Addr × Obj)} {σ : L2.St} {H : Hp} {s : Shared} {C : PyData → Prop}
mutual
theorem Dv.reads (cl : Clean C) (I : Inv X pins σ H s) (hs : H sysModules = none) : ∀ {v : V} {d : PyData}, Dv H v d → C d → ∀ u, RelV v u →
    ∃ as, Reads s.heap u d as ∧ sysModules ∉ as
  | _, _, .non, _, _, r => by cases r; exact ⟨_, Reads.none, by simp⟩
  | _, _, .bl b, _, _, r => by cases r; exact ⟨_, Reads.bool b, by simp⟩
  | _, _, .int i, _, _, r => by obtain ⟨t, rfl⟩ := r; exact ⟨_, Reads.int i t, by simp⟩
  | _, _, .str x, _, _, r => by obtain ⟨t, rfl⟩ := r; exact ⟨_, Reads.str x t, by simp⟩
  | _, _, .lst h ha, hc0, _, r => by
    cases r
    obtain ⟨its, rv, ⟨o, n, ho, hc, _, hd⟩, _⟩ := I.list (.inl h)
    obtain ⟨as, hr, hn⟩ := DvAll.reads cl I hs ha (cl.lst _ hc0) _ rv
    exact ⟨_, Reads.list ho hc hd hr, by simpa using ⟨(rd_ne h hs).symm, hn⟩⟩
  | _, _, .tup h ha, hc0, _, r => by
    cases r
    obtain ⟨its, rv, ⟨o, ho, hc, n, hd⟩, _⟩ := I.tuple (.inl h)
    obtain ⟨as, hr, hn⟩ := DvAll.reads cl I hs ha (cl.tup _ hc0) _ rv
    exact ⟨_, Reads.tuple ho hc hd hr, hn⟩
  | _, _, .ins (C := c) (ds := ds) _ _, hc0, _, _ => absurd hc0 (cl.no (.int (.ofNat c)) ds)
  | _, _, .cln (ds := ds) _ _ _, hc0, _, _ => absurd hc0 (cl.no (.tuple ds) [])
  | _, _, .dct (a := a) h ha, hc0, _, r => by
    cases r
    obtain ⟨_, _, vs, rk, o, es, ep, ho, hx, hd, _, hp, _⟩ := h.ok I.hok
    obtain ⟨as, bs, h1, h2, n1, n2⟩ := DvKv.reads cl I hs ha (cl.dct _ hc0) _ rk _ hp
    exact ⟨_, Reads.dict ho hx.1 hd h1 h2, by
      simp only [List.cons_append, List.mem_cons, List.mem_append, not_or]
      exact ⟨(rd_ne h hs).symm, n1, n2⟩⟩
theorem DvAll.reads (cl : Clean C) (I : Inv X pins σ H s) (hs : H sysModules = none) : ∀ {vs : List V} {ds : List PyData}, DvAll H vs ds → (∀ x ∈ ds, C x) → ∀ us, Vals vs us →
    ∃ as, ReadsAll s.heap us ds as ∧ sysModules ∉ as
  | _, _, .nil, _, _, r => by cases r; exact ⟨_, ReadsAll.nil, by simp⟩
  | _, _, .cons h1 h2, hc0, _, r => by
    cases r with
    | cons r1 r2 =>
      obtain ⟨as, q1, n1⟩ := Dv.reads cl I hs h1 (hc0 _ (.head _)) _ r1
      obtain ⟨bs, q2, n2⟩ := DvAll.reads cl I hs h2 (fun x hx => hc0 x (.tail _ hx)) _ r2
      exact ⟨_, ReadsAll.cons q1 q2, by simpa using ⟨n1, n2⟩⟩
theorem DvKv.reads (cl : Clean C) (I : Inv X pins σ H s) (hs : H sysModules = none) : ∀ {kvs : List (Key × V)} {ds : List (PyData × PyData)}, DvKv H kvs ds → (∀ p ∈ ds, C p.2) → ∀ vs, KV kvs vs → ∀ es, Pairs (mixKind X.prog X.w) es vs →
    ∃ as bs, ReadsAll s.heap (es.map (·.key)) (ds.map (·.1)) as ∧ ReadsAll s.heap (es.map (·.val)) (ds.map (·.2)) bs ∧ sysModules ∉ as ∧ sysModules ∉ bs
  | _, _, .nil, _, _, r, _, p => by
    cases r; cases p
    exact ⟨_, _, ReadsAll.nil, ReadsAll.nil, by simp, by simp⟩
  | _, _, .cons (k := k) h1 h2, hc0, _, r, _, p => by
    cases r with
    | cons r1 r2 =>
      cases p with
      | @cons e0 kv0 es0 kvs0 p1 p2 p3 =>
        obtain ⟨rk, rv⟩ := r1
        obtain ⟨as, q1, n1⟩ := Dv.reads cl I hs h1 (hc0 _ (.head _)) _ rv
        obtain ⟨as', bs', q2, q3, n2, n3⟩ := DvKv.reads cl I hs h2 (fun x hx => hc0 x (.tail _ hx)) _ r2 _ p3
        have hk : ∃ cs, Reads s.heap e0.key (kD k) cs ∧ sysModules ∉ cs := by
          have p1' := p1
          rw [← rk, mixKind_is] at p1'
          rcases keyIs_shape p1' with ⟨i, t, e1, e2⟩ | ⟨x, t, e1, e2⟩
          · dsimp only at e1
            subst e1
            exact ⟨[], by rw [e2]; exact Reads.int i t, by simp⟩
          · dsimp only at e1
            subst e1
            exact ⟨[], by rw [e2]; exact Reads.str x t, by simp⟩
        obtain ⟨cs, hk1, hk2⟩ := hk
        exact ⟨_, _, ReadsAll.cons hk1 q2, ReadsAll.cons (show Reads s.heap e0.val _ as by rw [p2]; exact q1) q3, by simpa using ⟨hk2, n2⟩, by simpa using ⟨n1, n3⟩⟩
end
end
/-- repr(x) -/
def rRepr : List V → Hp → VK → Prop := fun xs H Q => ∃ v d, xs = [v] ∧ Dv H v d ∧ d.showable = true ∧ d.depth ≤ 100 ∧
  d.shown.length ≤ sizeLine ∧ Q (.str d.shown) H
theorem call_repr {X : Cx} {k : Nat} (hr : Room k X.A) (hgd : X.A.guards = some []) (hsm : ∃ o, X.K.lookup sysModules = some o) :
    CallR X (.builtin "repr") rRepr := by
  intro pins s σ H xs us Q I r h
  obtain ⟨v, d, rfl, hv, hs, hd, hl, q⟩ := h
  obtain ⟨u, rfl, ru⟩ := vals1 r
  have hun := hr.un
  have sm : H sysModules = none := by
    obtain ⟨o, ho⟩ := hsm
    exact I.bs _ _ (I.ok.mod.kin _ _ ho) |>.2
  obtain ⟨as, rd, na⟩ := Dv.reads clean_show I sm hv hs u ru
  cases hv with
  | non =>
    cases ru
    exact PySem.P.repr_of_none ⟨.str _, H, I.tok _, ⟨_, rfl⟩, q⟩
  | bl b =>
    cases ru
    exact PySem.P.repr_of_bool ⟨.str _, H, I.tok _, ⟨_, rfl⟩, q⟩
  | int i =>
    obtain ⟨t, rfl⟩ := ru
    exact PySem.P.repr_of_int (by simpa [PyData.showable] using hs) ⟨.str _, H, I.tok _, ⟨_, rfl⟩, q⟩
  | str x =>
    obtain ⟨t, rfl⟩ := ru
    exact PySem.P.repr_of_str ⟨.str _, H, I.tok _, ⟨_, rfl⟩, q⟩ (by simpa [PyData.shown] using hl)
  | lst _ _ | tup _ _ | dct _ _ | ins _ _ | cln _ _ _ =>
    cases ru
    refine repr_of_reads' rd hs (fun _ => na) hgd (by omega) (fun _ _ e => e) (fun h' u tk hk => ?_) hl
    exact ⟨.str _, H, I.kept (t' := tk) hk, ⟨_, rfl⟩, q⟩
end Tc
/-! The law's call, where the guards are known to be none. -/
namespace Tc
open PySem PySem.Spec PyProof.Rows L2
section
variable {P : Program} {w : World} {K : PySem.W.Frag} {mg mb : Str → Option Value} {CX : CXT}
  {k : Nat} {fa a : Addr} {fd : FuncData} {x : Str} {sp : Sp} {s₁ : Shared} {vs : List Value} {ns : List Int}
/-- what must hold behind the law's call -/
abbrev Behind (s₁ : Shared) : Result → Shared → Prop := fun r s' =>
  r = .ok (.ret (.bool true)) ∧ OldK s₁.heap s'.heap ∧ s'.os = s₁.os ∧ AllBare s'.gens
end
end Tc
/-! An own exception class is called, with keywords too. -/
namespace Tc
open PySem PySem.Spec PySem.W
open Builtin Builtin.ObjectAttr
end Tc
/-! An own exception class with one field is called: what stands then. -/
namespace Tc
open PySem PySem.Spec PySem.W
open Builtin Builtin.ObjectAttr
end Tc
namespace Tc
open PySem PySem.Spec PySem.W PyProof.Rows
open Builtin Builtin.ObjectAttr
end Tc
/-! Exceptions as values, tracked: made, asked for their class, their field read. -/
namespace Tc
open PySem PySem.Spec PyProof.Rows L2
end Tc
namespace Tc
open PySem PySem.Spec PyProof.Rows L2
end Tc
/-! The head's facts by one Bool and the functions by their texts; what makes a new exception. -/
namespace Tc
open PySem PySem.Spec PyProof.Rows L2
/-- what objects name: the values of dicts, the names of classes, the code of functions -/
def valsOf (o : Obj) : List Addr := match o.data with
  | .dict es _ => es.toList.flatMap fun e => He.refV e.val
  | _ => []
def nsOf (o : Obj) : List Addr := match o.data with
  | .cls cd => [cd.ns]
  | _ => []
def codeOf (o : Obj) : List Addr := match o.data with
  | .func fd => He.refV fd.code
  | _ => []
def reach (g : Addr → Option Obj) (f : Obj → List Addr) (as : List Addr) : List Addr := as.flatMap fun a => match g a with
  | some o => f o
  | none => []
def obsM (F : PySem.W.Frag → Bool) (fn : List He.FnD) (K : PySem.W.Frag) : He.Al :=
  (F K && fn.all fun d => PySem.W.keepIn K (.ref (He.fAd K d.at_)) && (He.Fa.code d.at_ d.qual).ok K, fn.map fun d => He.fnObs K d.at_)
def SaysM (F : PySem.W.Frag → Bool) (fn : List He.FnD) (K : PySem.W.Frag) : Prop := obsM F fn K = He.valE fn
section
variable {F : PySem.W.Frag → Bool} {fn : List He.FnD} {K : PySem.W.Frag}
theorem SaysM.fact (c : SaysM F fn K) : F K = true :=
  (He.ba (congrArg (fun z : He.Al => z.1) c)).1
/-- the def d of the text stands, and is called so -/
theorem SaysM.fun_ (c : SaysM F fn K) (i : Nat) {st : Stmt} {p : Str × Option Str} {x q : Str}
    (h : fn[i]? = some ⟨p, x, q, defArgs st, defBody st, defScope st⟩ := by rfl) :
    ∃ fd, Fun K x q st (He.fAd K p) fd := by
  have c1 := (He.ba (show (F K && fn.all fun d => PySem.W.keepIn K (.ref (He.fAd K d.at_)) && (He.Fa.code d.at_ d.qual).ok K) = true from
    congrArg (fun z : He.Al => z.1) c)).2
  have c2 := List.all_eq_true.mp c1 _ (List.mem_of_getElem? h)
  obtain ⟨kp, cd⟩ := He.ba c2
  have e : fn.map (fun d => He.fnObs K d.at_) = fn.map He.FnD.val := congrArg (fun z : He.Al => z.2) c
  have e2 : (fn.map fun d => He.fnObs K d.at_)[i]? = (fn.map He.FnD.val)[i]? := by rw [e]
  rw [List.getElem?_map, List.getElem?_map, h] at e2
  obtain ⟨oc, od, osl, kV, doc, pm, an, cdv, ct, lk, hc⟩ := He.fn_ok (Option.some.inj e2) cd
  exact ⟨_, fun_mk lk hc kp⟩
end
/-- a statement, then the rest, a word between them -/
def tMid (t u : TS) : TS := fun D σ H => ∃ M : L2.St → Hp → Prop, t { D with nx := M } σ H ∧ ∀ σ' H', M σ' H' → u D σ' H'
theorem pss_mid {X : Cx} {st : Stmt} {rest : List Stmt} {t u : TS} (h1 : PS X st t) (h2 : PSs X rest u) : PSs X (st :: rest) (tMid t u) := by
  constructor
  intro pins s σ H D I h
  obtain ⟨M, hm, hu⟩ := h
  refine wpAny_execs_cons (thn (h1.run pins s σ H { D with nx := M } I hm) ?_)
  intro f s1 q
  cases f with
  | next =>
    obtain ⟨σ', H', I', q⟩ := q
    exact h2.run pins s1 σ' H' D I' (hu σ' H' q)
  | ret v | brk | cont => exact q
/-- a def by its name: what it keeps, how it is called -/
structure Call (P : Program) (w : World) (K : PySem.W.Frag) (mg : Str → Option Value) (base : Heap) (CX : CXT)
    (k : Nat) (x : Str) (ps : List Str) (sp : Sp) : Prop where
  ex : ∃ f fd, FnG P w K mg base CX k f fd ps sp ∧ mg x = some (.ref f) ∧ PySem.W.keepIn K (.ref f) = true ∧ Binds K fd ps []
section
variable {X : Cx} {CX : CXT} {k : Nat} {ps : List Str} {sp : Sp} {E : XK} {x : Str} {p pos : Pos} {e : Expr} {es : List Expr} {t : TA}
theorem pe_do (F : Call X.prog X.w X.K X.mg X.base CX k x ps sp) (hr : Room k X.A)
    (hgd : X.A.guards = some []) (hg : Gl X x) (hx : Passes CX X E) (ha : PA X (e :: es) t)
    (hdb : (x == ("__debug__" : Str)) = false := by decide)
    (he : starEach (e :: es) X.env = (false, eval e X.env) :: starEach es X.env := by rfl)
    (hpl : (backTo pos (starEach es X.env)).any (·.1) = false := by rfl) :
    PE X (.Call (.Name x p) (e :: es) [] pos) (tCall sp [] E t) := by
  obtain ⟨f, fd, G, hm, hk, hb⟩ := F.ex
  exact pe_callG G hr hgd hg hm hk hb .nil hx ha hdb he hpl
end
/-! ### the facts of an exception class, told by a Bool -/
/-- the three bases: the built-in class under which a class stands -/
inductive Kin where
  | v | l | a
def Kin.B : Kin → String
  | .v => "ValueError"
  | .l => "LookupError"
  | .a => "ArithmeticError"
def Kin.new : Kin → String
  | .v => "ValueError.__new__"
  | .l => "LookupError.__new__"
  | .a => "ArithmeticError.__new__"
def Kin.ini : Kin → String
  | .v => "ValueError.__init__"
  | .l => "LookupError.__init__"
  | .a => "ArithmeticError.__init__"
def Kin.mro (k : Kin) : List Value := [.type k.B, .type "Exception", .type "BaseException", .type "object"]
theorem Kin.base : ∀ k : Kin, ExcBaseFacts k.B k.new k.ini k.mro
  | .v => PySem.F.excBase_ValueError
  | .l => PySem.F.excBase_LookupError
  | .a => PySem.F.excBase_ArithmeticError
end Tc
/-! except (A, B, C) as n. -/
namespace Tc
open PySem PySem.Spec PyProof.Rows L2
end Tc
/-! raise X(e), X with its own __init__; what a suite asks of the exception that it holds. -/
namespace Tc
open PySem PySem.Spec PyProof.Rows L2
end Tc
/-! xs.count(b), xs a list of bools. -/
namespace Tc
open PySem PySem.Spec PyProof.Rows L2
end Tc
namespace Tc
open PySem PySem.Spec PyProof.Rows L2
mutual
theorem Dv.mono {H H' : Hp} (s : Same H H') : ∀ {v : V} {d : PyData}, Dv H v d → Dv H' v d
  | _, _, .non => .non
  | _, _, .bl b => .bl b
  | _, _, .int i => .int i
  | _, _, .str x => .str x
  | _, _, .lst h a => .lst (h.elim (fun z => .inl (s _ _ z)) fun ⟨o, z⟩ => .inr ⟨o, s _ _ z⟩) (DvAll.mono s a)
  | _, _, .tup h a => .tup (h.elim (fun z => .inl (s _ _ z)) fun ⟨o, z⟩ => .inr ⟨o, s _ _ z⟩) (DvAll.mono s a)
  | _, _, .dct h a => .dct (h.elim (fun z => .inl (s _ _ z)) fun ⟨o, z⟩ => .inr ⟨o, s _ _ z⟩) (DvKv.mono s a)
  | _, _, .ins h a => .ins (s _ _ h) (DvNm.mono s a)
  | _, _, .cln h e a => .cln (s _ _ h) e (DvAll.mono s a)
theorem DvNm.mono {H H' : Hp} (s : Same H H') : ∀ {gs : List (Str × V)} {ds : List (PyData × PyData)}, DvNm H gs ds → DvNm H' gs ds
  | _, _, .nil => .nil
  | _, _, .cons a b => .cons (Dv.mono s a) (DvNm.mono s b)
theorem DvAll.mono {H H' : Hp} (s : Same H H') : ∀ {vs : List V} {ds : List PyData}, DvAll H vs ds → DvAll H' vs ds
  | _, _, .nil => .nil
  | _, _, .cons a b => .cons (Dv.mono s a) (DvAll.mono s b)
theorem DvKv.mono {H H' : Hp} (s : Same H H') : ∀ {kvs : List (Key × V)} {ds : List (PyData × PyData)}, DvKv H kvs ds → DvKv H' kvs ds
  | _, _, .nil => .nil
  | _, _, .cons a b => .cons (Dv.mono s a) (DvKv.mono s b)
end
theorem Same.new {H : Hp} {p : Addr} {o : HO} (h : H p = none) : Same H (upd H p o) := fun b u e => by
  rw [upd_ne (ne_of_none e h)]
  exact e
/-- data that repr shows -/
def Good (d : PyData) : Prop := d.showable = true ∧ d.depth ≤ 100 ∧ d.shown.length ≤ sizeLine
instance (d : PyData) : Decidable (Good d) := by unfold Good; exact inferInstance
/-- a def's call, told by what it keeps -/
theorem Call.of {P : Program} {w : World} {K : PySem.W.Frag} {mg : Str → Option Value} {base : Heap} {CX : CXT} {k : Nat} {x qual : Str} {st : Stmt} {f : Addr} {fd : FuncData} {ps : List Str} {sp : Sp}
    (F : Fun K x qual st f fd) (G : FnG P w K mg base CX k f fd ps sp) (gm : mg x = some (.ref f))
    (h : ∀ (kV doc pm : Value) (an : Option Addr) (cdv ct : Value) (us : List Value), us.length = ps.length → bindArgs (PySem.W.fnOf x qual (defArgs st) (defBody st) (defScope st) .none kV doc pm an cdv ct) ⟨us, []⟩ = pure (ps.zip us)) :
    Call P w K mg base CX k x ps sp := ⟨f, fd, G, gm, F.kp, F.binds h⟩
end Tc
namespace Tc
open PySem PySem.Spec PyProof.Rows L2 Evl
/-- the lists at ps -/
inductive LL (H : Hp) : List Addr → List (List V) → Prop
  | nil : LL H [] []
  | snoc {ps : List Addr} {xss : List (List V)} {p : Addr} {xs : List V} : LL H ps xss → H p = some (.lst xs) → LL H (ps ++ [p]) (xss ++ [xs])
theorem LL.mono {H H' : Hp} : ∀ {ps : List Addr} {xss : List (List V)}, LL H ps xss → (∀ p ∈ ps, ∀ o, H p = some o → H' p = some o) → LL H' ps xss
  | _, _, .nil, _ => .nil
  | _, _, .snoc r h, s => .snoc (r.mono fun p hp => s p (List.mem_append_left _ hp)) (s _ (by simp) _ h)
theorem Call.mono {P : Program} {w : World} {K : PySem.W.Frag} {mg : Str → Option Value} {base : Heap} {CX : CXT} {j k : Nat} {x : Str} {ps : List Str} {sp : Sp} (F : Call P w K mg base CX j x ps sp) (h : j ≤ k) : Call P w K mg base CX k x ps sp := by
  obtain ⟨f, fd, G, r⟩ := F.ex
  exact ⟨f, fd, G.mono h, r⟩
/-- a whole number of the module -/
theorem pe_num {X : Cx} {x : Str} {n : Int} {p : Pos} (h : ∃ t, X.mg x = some (.int n t)) (hg : Gl X x) (hd : (x == ("__debug__" : Str)) = false := by decide) : PE X (.Name x p) (tC (.int n)) := by
  obtain ⟨t, e⟩ := h
  exact pe_glob hg e ⟨_, rfl⟩ hd
end Tc
/-! a op b op c op d; which class data are of. -/
namespace Tc
open PySem PySem.Spec PyProof.Rows L2
section
variable {X : Cx} {a b c d : Expr} {ta tb tc td : TE} {pos : Pos}
/-- a op b op c op d -/
def tChain3 (r r' r'' : R2) (ta tb tc td : TE) : TE := fun σ H Q => ta σ H fun x H1 => tb σ H1 fun y H2 => r x y H2 fun z H3 => ∃ k, z = .bl k ∧
  if k = true then tc σ H3 fun w H4 => r' y w H4 fun z H5 => ∃ k, z = .bl k ∧ (if k = true then td σ H5 fun v H6 => r'' w v H6 Q else Q (.bl false) H5)
  else Q (.bl false) H3
theorem pe_chain3 {op op' op'' : CmpOp} {r r' r'' : R2} (ho : OpR X (compareOp op) r) (ho' : OpR X (compareOp op') r') (ho'' : OpR X (compareOp op'') r'') (ha : PE X a ta) (hb : PE X b tb) (hc : PE X c tc) (hd : PE X d td)
    (hm : lastMarks [op, op', op''] [b, c, d] = false := by with_unfolding_all rfl) : PE X (.Compare a [op, op', op''] [b, c, d] pos) (tChain3 r r' r'' ta tb tc td) := by
  constructor
  intro pins s σ H Q I h
  refine Compare_chain (thn (ha.run pins s σ H _ I h) ?_) hm
  rintro v s1 ⟨x, H1, I1, r1, q1⟩
  refine chain_link (thn (hb.run pins s1 σ H1 _ I1 q1) ?_)
  rintro u s2 ⟨y, H2, I2, r2, q2⟩
  refine thn (ho pins s2 σ H2 x y v u _ I2 r1 r2 q2) ?_
  rintro e s3 ⟨z, H3, I3, r3, k, rfl, q3⟩
  cases r3
  refine wpAny_truthy_bool ?_
  cases k with
  | false => exact ite_ff ⟨.bl false, H3, I3, rfl, q3⟩
  | true =>
    refine ite_tt (chain_link (thn (hc.run pins s3 σ H3 _ I3 q3) ?_))
    rintro u4 s4 ⟨w, H4, I4, r4, q4⟩
    refine thn (ho' pins s4 σ H4 y w u u4 _ I4 r2 r4 q4) ?_
    rintro e s5 ⟨z, H5, I5, r5, k, rfl, q5⟩
    cases r5
    refine wpAny_truthy_bool ?_
    cases k with
    | false => exact ite_ff ⟨.bl false, H5, I5, rfl, q5⟩
    | true =>
      refine ite_tt (chain_last (thn (hd.run pins s5 σ H5 _ I5 q5) ?_))
      rintro u6 s6 ⟨v6, H6, I6, r6, q6⟩
      exact ho'' pins s6 σ H6 w v6 u4 u6 Q I6 r4 r6 q6
end
/-- the class of data -/
def tyD : PyData → String
  | .none => "NoneType"
  | .bool _ => "bool"
  | .int _ => "int"
  | .str _ => "str"
  | .list _ => "list"
  | .tuple _ => "tuple"
  | .dict _ => "dict"
theorem Dv.ty {K : PySem.W.Frag} {H : Hp} {v : V} {d : PyData} (h : Dv H v d) (ni : notI d = true) : TyX K H v (.type (tyD d)) := by
  cases h with
  | non => exact .base .non
  | bl b => exact .base (.bl b)
  | int i => exact .base (.int i)
  | str x => exact .base (.str x)
  | lst h _ => exact h.elim (fun h => .base (.lst h)) fun ⟨o, h⟩ => .base (.frz h)
  | tup h _ => exact h.elim (fun h => .base (.tup h)) fun ⟨o, h⟩ => .fTuple h
  | dct h _ => exact h.elim (fun h => .base (.dK h)) fun ⟨o, h⟩ => .fDict h
  | ins _ _ => cases ni
  | cln _ _ _ => cases ni
/-- isinstance of two built-in classes -/
def tyIs (a b : String) : Bool := (Value.type a == Value.type b) || ((fastBuiltinMro a).map fun l => l.contains (.type b)) == some true
theorem kit_ty {K : PySem.W.Frag} {a b : String} (h : (PySem.W.kitMeta b && (fastBuiltinMro a).isSome) = true) : PySem.W.kitOne K (.type a) (.type b) = some (tyIs a b) := by
  obtain ⟨h1, h2⟩ := Bool.and_eq_true_iff.mp h
  obtain ⟨l, hl⟩ := Option.isSome_iff_exists.mp h2
  unfold PySem.W.kitOne tyIs
  by_cases e : (Value.type a == Value.type b) = true
  · rw [if_pos e, e] <;> rfl
  · rw [if_neg e]
    have e2 : (Value.type a == Value.type b) = false := Bool.eq_false_iff.mpr e
    unfold PySem.W.kitCls
    show (if PySem.W.kitMeta b = true then PySem.W.subIn K (.type a) (.type b) else none) = _
    rw [if_pos h1, e2]
    show (fastBuiltinMro a).map _ = _
    rw [hl]
    show some (l.contains (Value.type b)) = some (false || (some (l.contains (Value.type b)) == some true))
    cases l.contains (Value.type b) <;> rfl
theorem metas : ∀ b ∈ ["int", "bool", "tuple", "str", "list"], ∀ a ∈ ["NoneType", "bool", "int", "str", "list", "tuple", "dict"], (PySem.W.kitMeta b && (fastBuiltinMro a).isSome) = true := by decide +kernel
theorem tyD_mem (d : PyData) : tyD d ∈ ["NoneType", "bool", "int", "str", "list", "tuple", "dict"] := by
  cases d <;> simp [tyD]
/-- isinstance(v, T), v data -/
theorem isi_D {K : PySem.W.Frag} {H : Hp} {v : V} {d : PyData} {T : String} {Q : VK} (h : Dv H v d) (ni : notI d = true) (hT : T ∈ ["int", "bool", "tuple", "str", "list"]) (q : Q (.bl (tyIs (tyD d) T)) H) : rIsi K [v, .ty T] H Q :=
  ⟨v, .ty T, _, _, _, rfl, .ty T, h.ty ni, kit_ty (metas T hT _ (tyD_mem d)), q⟩
theorem ty_int : ∀ d : PyData, tyIs (tyD d) "int" = (match d with | .int _ => true | .bool _ => true | _ => false) := by
  have h : tyIs "NoneType" "int" = false ∧ tyIs "bool" "int" = true ∧ tyIs "int" "int" = true ∧ tyIs "str" "int" = false ∧ tyIs "list" "int" = false ∧ tyIs "tuple" "int" = false ∧ tyIs "dict" "int" = false := by decide +kernel
  obtain ⟨h1, h2, h3, h4, h5, h6, h7⟩ := h
  intro d
  cases d <;> simp only [tyD] <;> assumption
theorem ty_bool : ∀ d : PyData, tyIs (tyD d) "bool" = (match d with | .bool _ => true | _ => false) := by
  have h : tyIs "NoneType" "bool" = false ∧ tyIs "bool" "bool" = true ∧ tyIs "int" "bool" = false ∧ tyIs "str" "bool" = false ∧ tyIs "list" "bool" = false ∧ tyIs "tuple" "bool" = false ∧ tyIs "dict" "bool" = false := by decide +kernel
  obtain ⟨h1, h2, h3, h4, h5, h6, h7⟩ := h
  intro d
  cases d <;> simp only [tyD] <;> assumption
theorem ty_tuple : ∀ d : PyData, tyIs (tyD d) "tuple" = (match d with | .tuple _ => true | _ => false) := by
  have h : tyIs "NoneType" "tuple" = false ∧ tyIs "bool" "tuple" = false ∧ tyIs "int" "tuple" = false ∧ tyIs "str" "tuple" = false ∧ tyIs "list" "tuple" = false ∧ tyIs "tuple" "tuple" = true ∧ tyIs "dict" "tuple" = false := by decide +kernel
  obtain ⟨h1, h2, h3, h4, h5, h6, h7⟩ := h
  intro d
  cases d <;> simp only [tyD] <;> assumption
theorem ty_str : ∀ d : PyData, tyIs (tyD d) "str" = (match d with | .str _ => true | _ => false) := by
  have h : tyIs "NoneType" "str" = false ∧ tyIs "bool" "str" = false ∧ tyIs "int" "str" = false ∧ tyIs "str" "str" = true ∧ tyIs "list" "str" = false ∧ tyIs "tuple" "str" = false ∧ tyIs "dict" "str" = false := by decide +kernel
  obtain ⟨h1, h2, h3, h4, h5, h6, h7⟩ := h
  intro d
  cases d <;> simp only [tyD] <;> assumption
theorem DvAll.len {H : Hp} : ∀ {vs : List V} {ds : List PyData}, DvAll H vs ds → vs.length = ds.length
  | _, _, .nil => rfl
  | _, _, .cons _ h => congrArg Nat.succ h.len
end Tc
/-! calls of defs that may stand under a repr, by place and by name. -/
namespace Tc
open PySem PySem.Spec PyProof.Rows L2
/-- as Call, whoever calls -/
structure CallO (P : Program) (w : World) (K : PySem.W.Frag) (mg : Str → Option Value) (base : Heap) (CX : CXT)
    (k : Nat) (x : Str) (ps : List Str) (sp : Sp) : Prop where
  ex : ∃ f fd, FnOk P w K mg base CX k f fd ps sp ∧ mg x = some (.ref f) ∧ PySem.W.keepIn K (.ref f) = true ∧ Binds K fd ps []
theorem CallO.call {P : Program} {w : World} {K : PySem.W.Frag} {mg : Str → Option Value} {base : Heap} {CX : CXT} {k : Nat} {x : Str} {ps : List Str} {sp : Sp}
    (F : CallO P w K mg base CX k x ps sp) : Call P w K mg base CX k x ps sp := by
  obtain ⟨f, fd, G, r⟩ := F.ex
  exact ⟨f, fd, .of G, r⟩
theorem CallO.of {P : Program} {w : World} {K : PySem.W.Frag} {mg : Str → Option Value} {base : Heap} {CX : CXT} {k : Nat} {x qual : Str} {st : Stmt} {f : Addr} {fd : FuncData} {ps : List Str} {sp : Sp}
    (F : Fun K x qual st f fd) (G : FnOk P w K mg base CX k f fd ps sp) (gm : mg x = some (.ref f))
    (h : ∀ (kV doc pm : Value) (an : Option Addr) (cdv ct : Value) (us : List Value), us.length = ps.length → bindArgs (PySem.W.fnOf x qual (defArgs st) (defBody st) (defScope st) .none kV doc pm an cdv ct) ⟨us, []⟩ = pure (ps.zip us)) :
    CallO P w K mg base CX k x ps sp := ⟨f, fd, G, gm, F.kp, F.binds h⟩
end Tc
/-! The head's facts with the tables of defs that make lambdas; the law's end with these, no repr around. -/
namespace Tc
open PySem PySem.Spec PyProof.Rows L2
end Tc
namespace Tc
open PySem PySem.Spec PyProof.Rows L2
section
variable {P : Program} {w : World} {K : PySem.W.Frag} {mg mb : Str → Option Value} {CX : CXT}
  {k : Nat} {fa a : Addr} {cs : List (Addr × Addr)} {fd : FuncData} {x : Str} {sp : Sp} {s₁ : Shared} {vs : List Value} {ns : List Int}
/-- an empty table of code objects -/
abbrev tab0 : Obj := { cls := .none, data := .fields #[] }
abbrev scriptO (vs : List Value) : Obj := { cls := .type "list", data := .seq vs.toArray }
/-- the law's call, from a heap in which the tables and at most the script are tracked -/
theorem callT_from (KX : K.In s₁.heap) (hns : s₁.heap.Ns mainGlobals mg) (hb : s₁.heap.Ns builtinsNs mb)
    (hbb : ∀ y : Str, y ≠ "__name__" → mb y = bootBuiltins y) (hlim : s₁.heap.NoLimit) (hg : s₁.gens = #[])
    (hT : ∀ p ∈ cs, s₁.heap.get? p.2 = some tab0) (nT : ∀ p ∈ cs, K.lookup p.2 = none) (C : ∀ p ∈ cs, PySem.W.CodeHd s₁.heap p.1 p.2)
    (hbm : ∃ (bm : Addr) (ob : Obj), mg "__builtins__" = some (.ref bm) ∧ bm ≠ builtinsNs ∧ s₁.heap.get? bm = some ob ∧ ob.cls = .type "module" ∧ ob.dict = some builtinsNs ∧ ob.data = .plain)
    (ha : s₁.heap.get? a = some (scriptO vs)) (hr : Room k callerA)
    (F : ∀ base : Heap, K.In base → base.Ns mainGlobals mg → (∀ p ∈ cs, LamX.TabB base mg p.1 p.2) → FnG P w K mg base CX k fa fd [x] sp)
    (hbind : ∀ (s : Shared) (u : Value), BindsTo s fd ⟨[u], []⟩ [(x, u)])
    (hCX : ∀ H e s', CX [] H s₁ (fun _ _ _ => False) e s' → False)
    (H : Hp) (hH : ∀ p ∈ cs, H p.2 = some (.tbl #[])) (hO : ∀ b, H b = none ∨ b ∈ cs.map (·.2) ∨ ∃ o xs, H b = some (.frz o (.lst xs)))
    (hsp : sp [.ref a] H (fun v _ => v = .bl true) fun _ _ _ => False)
    (hok : HOk P w H s₁.heap) (hA : ∀ b, H b ≠ none → b = a ∨ b ∈ cs.map (·.2)) (hK : H a ≠ none → K.lookup a = none) :
    codeAny (model P w) callerA (.call (.ref fa) ⟨[.ref a], []⟩) (Behind s₁) s₁ := by
  have tabAt : ∀ b, b ∈ cs.map (·.2) → s₁.heap.get? b = some tab0 := by
    intro b hb
    obtain ⟨p, hp, rfl⟩ := List.mem_map.mp hb
    exact hT p hp
  have hid : ∀ {b : Addr} {o : Obj}, s₁.heap.get? b = some o → H b = none → (hidT s₁.heap H).get? b = some o := fun e n => hidT_get e n
  -- what is neither the script nor a table is not tracked
  have free : ∀ {b : Addr} {o : Obj}, s₁.heap.get? b = some o → (∀ vs n, o.data ≠ .seq vs n) → o.data ≠ .fields #[] → H b = none := by
    intro b o e h1 h2
    cases q : H b with
    | none => rfl
    | some u =>
      rcases hA b (by rw [q]; exact Option.some_ne_none u) with z | z
      · rw [z, ha] at e
        cases e
        exact (h1 _ _ rfl).elim
      · rw [tabAt b z] at e
        cases e
        exact (h2 rfl).elim
  have freeD : ∀ {b : Addr} {o : Obj} {es : Array DictEntry} {ep : Nat}, s₁.heap.get? b = some o → o.data = .dict es ep → H b = none := fun e d =>
    free e (fun vs n z => by rw [d] at z; cases z) (fun z => by rw [d] at z; cases z)
  have names : ∀ {b : Addr} {m : Str → Option Value}, s₁.heap.Ns b m → (hidT s₁.heap H).Ns b m := by
    rintro b m ⟨o, es, ep, e, d, r⟩
    exact ⟨o, es, ep, hid e (freeD e d), d, r⟩
  have written : K.In (hidT s₁.heap H) := by
    intro b o e
    refine hid (KX b o e) ?_
    cases q : H b with
    | none => rfl
    | some u =>
      rcases hA b (by rw [q]; exact Option.some_ne_none u) with z | z
      · rw [z] at e q
        rw [hK (by rw [q]; exact Option.some_ne_none u)] at e
        cases e
      · obtain ⟨p, hp, rfl⟩ := List.mem_map.mp z
        rw [nT p hp] at e
        cases e
  have TB : ∀ p ∈ cs, LamX.TabB (hidT s₁.heap H) mg p.1 p.2 := by
    intro p hp
    have here := hT p hp
    refine ⟨?_, ?_, ?_⟩
    · obtain ⟨o, us, file, tf, flags, tg, inF, text, tt, e1, r1, r2, r3, rest⟩ := C p hp
      refine ⟨o, us, file, tf, flags, tg, inF, text, tt, hid e1 (free e1 (fun vs n z => ?_) fun z => ?_), r1, r2, r3, rest⟩
      · rw [r2] at z
        cases z
      · rw [r2] at z
        cases z
        simp at r3
    · obtain ⟨bm, ob, b1, b2, b3, b4, b5, b6⟩ := hbm
      have nG : bm ≠ mainGlobals := by
        intro q
        obtain ⟨o, es, ep, e, d, _⟩ := hns
        rw [q, e] at b3
        cases b3
        rw [d] at b6
        cases b6
      have nP : bm ≠ p.2 := by
        intro q
        rw [q, here] at b3
        cases b3
        cases b6
      exact ⟨bm, ob, b1, b2, nG, nP, hid b3 (free b3 (fun vs n z => by rw [b6] at z; cases z) (fun z => by rw [b6] at z; cases z)), b4, b5, b6⟩
    · intro z
      obtain ⟨o, es, ep, e, d, _⟩ := hns
      rw [z, here] at e
      cases e
      cases d
  have e0 : Env0 P w K mg (hidT s₁.heap H) callerA [] s₁ H :=
    ⟨rfl, ⟨written, names hns, ⟨mb, names hb, hbb⟩, by obtain ⟨mc, h1, h2⟩ := hlim; exact ⟨mc, names h1, h2⟩⟩, fun b o e => of_hidT e, Nat.le_of_eq (hidT_size _ _), trivial,
      fun b h => (List.not_mem_nil (show b ∈ ([] : List Addr) from h)).elim, hok, .of_eq hg⟩
  have run := (F _ written (names hns) TB).run callerA [] s₁ H ⟨[.ref a], []⟩ [.ref a] [.ref a] _ _ hr rfl e0 (hbind s₁ (.ref a)) (.cons rfl .nil) hsp
  refine codeAny_mono run ?_
  intro r s' h
  rcases r with e | fl
  · exact (hCX H e s' h).elim
  cases fl with
  | next | brk | cont => exact False.elim h
  | ret u =>
    obtain ⟨v, H', os, bare, un, hok', rv, q⟩ := h
    have hv : v = .bl true := q
    subst hv
    have hu : u = Value.bool true := rv
    subst hu
    have old : ∀ b o, b ∉ cs.map (·.2) → s₁.heap.get? b = some o → s'.heap.get? b = some o := by
      intro b o nb e
      cases q : H b with
      | none => exact un.keep b o e q (fun z => nomatch (show b ∈ ([] : List Addr) from z)) (fun z => nomatch z)
      | some u =>
        rcases hO b with z | z | ⟨ob, xs, z⟩
        · rw [q] at z
          cases z
        · exact absurd z nb
        · have now := (hok b _ z).1
          have later := (hok' b _ (un.frzs b ob _ z)).1
          rw [e] at now
          cases now
          exact later
    have grown : ∀ p ∈ cs, ∃ more : Array Value, s'.heap.get? p.2 = some { cls := .none, data := .fields more } := by
      intro p hp
      obtain ⟨more, z⟩ := un.tbls p.2 #[] (hH p hp)
      exact ⟨_, hok' p.2 _ z⟩
    refine ⟨rfl, ⟨fun b o e => ?_, fun b o e => ?_⟩, os, bare⟩
    · by_cases hb : b ∈ cs.map (·.2)
      · obtain ⟨p, hp, rfl⟩ := List.mem_map.mp hb
        obtain ⟨more, hm⟩ := grown p hp
        rw [hT p hp] at e
        cases e
        exact .inr (.inl ⟨((C p hp).tab (hT p hp)).isCodeTable, rfl, #[], more, rfl, by rw [Array.empty_append]; exact hm⟩)
      · exact .inl (old b o hb e)
    · by_cases hb : b ∈ cs.map (·.2)
      · obtain ⟨p, hp, rfl⟩ := List.mem_map.mp hb
        obtain ⟨more, hm⟩ := grown p hp
        exact ⟨_, hm⟩
      · exact ⟨o, old b o hb e⟩
/-- the law's call -/
theorem law_callTG (KX : K.In s₁.heap) (hns : s₁.heap.Ns mainGlobals mg) (hb : s₁.heap.Ns builtinsNs mb)
    (hbb : ∀ y : Str, y ≠ "__name__" → mb y = bootBuiltins y) (hlim : s₁.heap.NoLimit) (hg : s₁.gens = #[])
    (hT : ∀ p ∈ cs, s₁.heap.get? p.2 = some tab0) (nT : ∀ p ∈ cs, K.lookup p.2 = none) (C : ∀ p ∈ cs, PySem.W.CodeHd s₁.heap p.1 p.2)
    (hbm : ∃ (bm : Addr) (ob : Obj), mg "__builtins__" = some (.ref bm) ∧ bm ≠ builtinsNs ∧ s₁.heap.get? bm = some ob ∧ ob.cls = .type "module" ∧ ob.dict = some builtinsNs ∧ ob.data = .plain)
    (ha : s₁.heap.get? a = some (scriptO vs)) (hi : IntsAre vs ns) (hl : ns.length ≤ sizeLine) (hr : Room k callerA)
    (F : ∀ base : Heap, K.In base → base.Ns mainGlobals mg → (∀ p ∈ cs, LamX.TabB base mg p.1 p.2) → FnG P w K mg base CX k fa fd [x] sp)
    (hbind : ∀ (s : Shared) (u : Value), BindsTo s fd ⟨[u], []⟩ [(x, u)])
    (hsp : ∀ H : Hp, (∀ p ∈ cs, H p.2 = some (.tbl #[])) → SqL K H a (ns.map V.int) → sp [.ref a] H (fun v _ => v = .bl true) fun _ _ _ => False)
    (hCX : ∀ H e s', CX [] H s₁ (fun _ _ _ => False) e s' → False) :
    codeAny (model P w) callerA (.call (.ref fa) ⟨[.ref a], []⟩) (Behind s₁) s₁ := by
  have rv := vals_ints hi
  have main := fun H hH hO hq => callT_from (sp := sp) KX hns hb hbb hlim hg hT nT C hbm ha hr F hbind hCX H hH hO hq
  have mem : ∀ p ∈ cs, p.2 ∈ cs.map (·.2) := fun p hp => List.mem_map.mpr ⟨p, hp, rfl⟩
  have tabAt : ∀ b, b ∈ cs.map (·.2) → s₁.heap.get? b = some tab0 := by
    intro b hb
    obtain ⟨p, hp, rfl⟩ := List.mem_map.mp hb
    exact hT p hp
  have aT : a ∉ cs.map (·.2) := by
    intro z
    have q := tabAt a z
    rw [ha] at q
    have z' : Data.seq vs.toArray _ = Data.fields #[] := congrArg Obj.data (Option.some.inj q)
    cases z'
  cases hk : K.lookup a with
  | some o =>
    have e := KX a o hk
    rw [ha] at e
    cases e
    let H : Hp := fun b => if b ∈ cs.map (·.2) then some (.tbl #[]) else none
    have on : ∀ {b : Addr}, b ∈ cs.map (·.2) → H b = some (.tbl #[]) := fun hb => if_pos hb
    have off : ∀ {b : Addr}, b ∉ cs.map (·.2) → H b = none := fun hb => if_neg hb
    refine main H (fun p hp => on (mem p hp)) (fun b => ?_) (hsp H (fun p hp => on (mem p hp)) (.inr ⟨_, vs.toArray, _, hk, rfl, rfl, rfl, ?_, by simpa using rv⟩)) (fun b u z => ?_) (fun b z => ?_) (fun z => absurd (off aT) z)
    · by_cases hb : b ∈ cs.map (·.2)
      · exact .inr (.inl hb)
      · exact .inl (off hb)
    · rw [List.size_toArray, hi.length]
      exact hl
    · by_cases hb : b ∈ cs.map (·.2)
      · rw [on hb] at z
        cases z
        exact tabAt b hb
      · rw [off hb] at z
        cases z
    · by_cases hb : b ∈ cs.map (·.2)
      · exact .inr hb
      · exact absurd (off hb) z
  | none =>
    let H : Hp := fun b => if b = a then some (.frz (scriptO vs) (.lst (ns.map V.int))) else if b ∈ cs.map (·.2) then some (.tbl #[]) else none
    have at_a : H a = some (.frz (scriptO vs) (.lst (ns.map V.int))) := if_pos rfl
    have on : ∀ {b : Addr}, b ∈ cs.map (·.2) → H b = some (.tbl #[]) := fun {b} hb => (if_neg (show ¬ b = a from fun z => aT (by rw [← z]; exact hb))).trans (if_pos hb)
    have off : ∀ {b : Addr}, b ≠ a → b ∉ cs.map (·.2) → H b = none := fun n hb => (if_neg n).trans (if_neg hb)
    refine main H (fun p hp => on (mem p hp)) (fun b => ?_) (hsp H (fun p hp => on (mem p hp)) (.inl (.inr ⟨_, at_a⟩))) (fun b u z => ?_) (fun b z => ?_) (fun _ => hk)
    · by_cases n : b = a
      · rw [n]
        exact .inr (.inr ⟨_, _, at_a⟩)
      · by_cases hb : b ∈ cs.map (·.2)
        · exact .inr (.inl hb)
        · exact .inl (off n hb)
    · by_cases n : b = a
      · subst n
        rw [at_a] at z
        cases z
        exact ⟨ha, by rw [List.length_map]; exact hl, vs, _, rv, ha⟩
      · by_cases hb : b ∈ cs.map (·.2)
        · rw [on hb] at z
          cases z
          exact tabAt b hb
        · rw [off n hb] at z
          cases z
    · by_cases n : b = a
      · exact .inl n
      · by_cases hb : b ∈ cs.map (·.2)
        · exact .inr hb
        · exact absurd (off n hb) z
end
/-- the end of a law's row, from a word about the head, with tables -/
theorem walk_endTG {l : PySem.W.OpenLaw} {n k : Nat} {q : Program} {loose : List Str} {XP : (Str → Option Value) → Heap → Prop} {YP : World → Heap → Prop} {d : DefRec} {CX : World → CXT} {x : Str}
    (hm : l.most = some n) (hs : n ≤ sizeLine) (h0 : d.params.defaults = []) (hr : Room k callerA)
    (F : ∀ (w : World) (mg : Str → Option Value) (fa : Addr) (h : Heap), YP w h → h.Ns mainGlobals mg → mg d.name = some (.ref fa) →
      ∃ (K : PySem.W.Frag) (fd : FuncData) (cs : List (Addr × Addr)) (sp : Sp), K.In h ∧ (∀ (s : Shared) (u : Value), BindsTo s fd ⟨[u], []⟩ [(x, u)]) ∧
        ((∀ p ∈ cs, h.get? p.2 = some tab0) ∧ (∀ p ∈ cs, K.lookup p.2 = none) ∧ ∀ p ∈ cs, PySem.W.CodeHd h p.1 p.2) ∧
        (∀ base : Heap, K.In base → base.Ns mainGlobals mg → (∀ p ∈ cs, LamX.TabB base mg p.1 p.2) → FnG l.prog w K mg base (CX w) k fa fd [x] sp) ∧
        ∀ (H : Hp) (a : Addr) (ns : List Int), ns.length ≤ n → (∀ p ∈ cs, H p.2 = some (.tbl #[])) → SqL K H a (ns.map V.int) → sp [.ref a] H (fun v _ => v = .bl true) fun _ _ _ => False)
    (hX : ∀ (w : World) (H : Hp) (s : Shared) (e : Value) (s' : Shared), ¬ CX w [] H s (fun _ _ _ => False) e s') :
    PySem.W.WalkO q loose XP YP l.row.toRowW d [] (fun f vs => PySem.call f vs) := by
  refine Att.attach_callB hm h0 ?_
  intro w s₀ s₁ mg mb fa o pm cd doc a vs ns G Y ho hd hcd hmg hobj hints hlen hbits hg
  obtain ⟨K, fd, cs, sp, KX, hb, ⟨hT, nT, C⟩, hF, hsp⟩ := F w mg fa _ Y G.T.g hmg
  exact law_callTG KX G.T.g G.T.b G.T.builtins G.T.nolimit hg hT nT C G.T.bmain hobj hints (Nat.le_trans hlen hs) hr hF hb
    (fun H hH hS => hsp H a ns hlen hH hS) (fun H e s' => hX w H s₁ e s')
end Tc
/-! The head's facts where classes have properties and classmethods: their defs stand behind records. -/
namespace Tc
open PySem PySem.Spec PyProof.Rows L2
/-- where a def stands: a global, a method, a property's getter, a classmethod's def -/
inductive Way where
  | glo (x : Str)
  | meth (x m : Str)
  | prop (x m : Str)
  | cmeth (x m : Str)
/-- the first thing of a record -/
def recAd (K : PySem.W.Frag) (T : String) (p : Addr) : Addr := match PySem.W.recIn K p T with
  | some (.ref g :: _) => g
  | _ => 0
def Way.ad (K : PySem.W.Frag) : Way → Addr
  | .glo x => He.ga K x
  | .meth x m => He.ma K (He.ga K x) m
  | .prop x m => recAd K "property" (He.ma K (He.ga K x) m)
  | .cmeth x m => recAd K "classmethod" (He.ma K (He.ga K x) m)
structure FnQ where
  way : Way
  name : Str
  qual : Str
  st : Stmt
def FnQ.val (d : FnQ) : He.FnV := some (d.name, d.qual, defArgs d.st, .stmts (defBody d.st), defScope d.st, mainGlobals, [], .none, builtinsNs)
/-- a def's own data at an address -/
def dataAt (K : PySem.W.Frag) (a : Addr) : Option FuncData := match K.lookup a with
  | some o => (match o.data with
    | .func fd => some fd
    | _ => none)
  | none => none
def seen (fd : FuncData) : He.FnV := some (fd.name, fd.qualname, fd.params, fd.body, fd.scope, fd.globals, fd.closure, fd.defaults, fd.builtins)
def seenAt (K : PySem.W.Frag) (a : Addr) : He.FnV := (dataAt K a).bind seen
def codeAt (K : PySem.W.Frag) (a : Addr) (q : Str) : Bool := match dataAt K a with
  | some fd => PySem.W.codeIn K fd.code q
  | none => false
theorem def_ok {K : PySem.W.Frag} {a : Addr} {d : FnQ} (e : seenAt K a = d.val) (c : codeAt K a d.qual = true) (k : PySem.W.keepIn K (.ref a) = true) : ∃ fd, Fun K d.name d.qual d.st a fd := by
  unfold seenAt dataAt at e
  unfold codeAt dataAt at c
  cases q : K.lookup a with
  | none =>
    rw [q] at c
    cases c
  | some o =>
    rw [q] at c e
    obtain ⟨oc, od, dt, osl⟩ := o
    cases dt with
    | func fd =>
      cases fd
      have e2 := Option.some.inj e
      simp only [Prod.mk.injEq] at e2
      obtain ⟨h1, h2, h3, h4, h5, h6, h7, h8, h9⟩ := e2
      subst h1 h2 h3 h4 h5 h6 h7 h8 h9
      exact ⟨_, fun_mk q c k⟩
    | _ => cases c
/-- records' first things -/
def recOf (o : Obj) : List Addr := match o.cls, o.data with
  | .type "property", .fields vs => vs.toList.flatMap He.refV
  | .type "classmethod", .fields vs => vs.toList.flatMap He.refV
  | _, _ => []
/-- the things in a tuple -/
def tupOf (o : Obj) : List Addr := match o.cls, o.data with
  | .type "tuple", .seq vs _ => vs.toList.flatMap He.refV
  | _, _ => []
def adsQ (g : Addr → Option Obj) : List Addr :=
  let l1 := reach g valsOf [mainGlobals]
  let l2 := reach g nsOf l1
  let l3 := reach g valsOf l2
  let l4 := reach g recOf l3
  mainGlobals :: sysModules :: (l1 ++ (l2 ++ (l3 ++ (l4 ++ (reach g tupOf l1 ++ reach g codeOf (l1 ++ (l3 ++ l4)))))))
def frQ (g : Addr → Option Obj) : PySem.W.Frag := He.frT g (adsQ g)
def obsC (F : PySem.W.Frag → Bool) (fn : List FnQ) (K : PySem.W.Frag) : He.Al :=
  (F K && fn.all fun d => PySem.W.keepIn K (.ref (d.way.ad K)) && codeAt K (d.way.ad K) d.qual, fn.map fun d => seenAt K (d.way.ad K))
def SaysC (F : PySem.W.Frag → Bool) (fn : List FnQ) (K : PySem.W.Frag) : Prop := obsC F fn K = (true, fn.map FnQ.val)
theorem SaysC.fact {F : PySem.W.Frag → Bool} {fn : List FnQ} {K : PySem.W.Frag} (c : SaysC F fn K) : F K = true :=
  (He.ba (congrArg (fun z : He.Al => z.1) c)).1
theorem SaysC.fun_ {F : PySem.W.Frag → Bool} {fn : List FnQ} {K : PySem.W.Frag} (c : SaysC F fn K) (i : Nat) {w : Way} {x q : Str} {st : Stmt} (h : fn[i]? = some ⟨w, x, q, st⟩ := by rfl) :
    ∃ fd, Fun K x q st (w.ad K) fd := by
  have c1 := (He.ba (congrArg (fun z : He.Al => z.1) c)).2
  obtain ⟨kp, cd⟩ := He.ba (List.all_eq_true.mp c1 _ (List.mem_of_getElem? h))
  have e : fn.map (fun d => seenAt K (d.way.ad K)) = fn.map FnQ.val := congrArg (fun z : He.Al => z.2) c
  have e2 : (fn.map fun d => seenAt K (d.way.ad K))[i]? = (fn.map FnQ.val)[i]? := by rw [e]
  rw [List.getElem?_map, List.getElem?_map, h] at e2
  exact def_ok (d := ⟨w, x, q, st⟩) (Option.some.inj e2) cd kp
structure SaysQ (F : PySem.W.Frag → Bool) (fn : List FnQ) (tf : List He.Defn) (h : Heap) (K : PySem.W.Frag) : Prop where
  core : SaysC F fn K
  hd : ∀ p ∈ tf, PySem.W.codeHdIn K (He.cT K p).1 (He.cT K p).2 = true
  out : ∀ p ∈ tf, K.lookup (He.cT K p).2 = none
  empty : ∀ p ∈ tf, h.get? (He.cT K p).2 = some { cls := .none, data := .fields #[] }
def obsQ (F : PySem.W.Frag → Bool) (fn : List FnQ) (tf : List He.Defn) (g : Addr → Option Obj) : He.Al × Bool := (obsC F fn (frQ g), He.tabsB g tf (frQ g))
theorem saysQ_of {F : PySem.W.Frag → Bool} {fn : List FnQ} {tf : List He.Defn} {h : Heap} (e : obsQ F fn tf h.get? = ((true, fn.map FnQ.val), true)) : SaysQ F fn tf h (frQ h.get?) := by
  have e1 : SaysC F fn (frQ h.get?) := congrArg (fun z : He.Al × Bool => z.1) e
  have e2 : He.tabsB h.get? tf (frQ h.get?) = true := congrArg (fun z : He.Al × Bool => z.2) e
  have all : ∀ p ∈ tf, PySem.W.codeHdIn (frQ h.get?) (He.cT (frQ h.get?) p).1 (He.cT (frQ h.get?) p).2 = true ∧ ∃ o, h.get? (He.cT (frQ h.get?) p).2 = some o ∧ He.emptyTab o = true := fun p hp => by
    obtain ⟨a, b⟩ := He.ba (List.all_eq_true.mp e2 p hp)
    cases q : h.get? (He.cT (frQ h.get?) p).2 with
    | none =>
      rw [q] at b
      cases b
    | some o =>
      rw [q] at b
      exact ⟨a, o, rfl, b⟩
  refine ⟨e1, fun p hp => (all p hp).1, fun p hp => ?_, fun p hp => ?_⟩
  · obtain ⟨_, o, q, z⟩ := all p hp
    exact He.frT_none q z
  · obtain ⟨_, o, q, z⟩ := all p hp
    exact q.trans (congrArg some (He.emptyTab_eq z))
def hookQ (F : PySem.W.Frag → Bool) (fn : List FnQ) (tf : List He.Defn) : PySem.W.Hook where
  α := He.Al × Bool
  obs := fun s => obsQ F fn tf s.heap.get?
  val := fun _ => ((true, fn.map FnQ.val), true)
  says := fun _ h => ∃ K : PySem.W.Frag, K.In h ∧ SaysQ F fn tf h K
  of := fun _ _ e => ⟨_, He.frT_in, saysQ_of e⟩
  keeps := fun _ _ _ ⟨K, hK, c⟩ k => ⟨K, PySem.W.Frag.In.keeps hK k, ⟨c.core, c.hd, c.out, fun p hp => k _ _ (c.empty p hp)⟩⟩
theorem obsQ_eq {F : PySem.W.Frag → Bool} {fn : List FnQ} {tf : List He.Defn} {g : Addr → Option Obj} {s : Shared} (h : ∀ a, g a = s.heap.get? a) : obsQ F fn tf g = (hookQ F fn tf).obs s := by
  rw [show g = s.heap.get? from funext h]
  rfl
/-! ### classes by Bools -/
/-- a plain own class that is made by its own __init__ -/
def mkB (K : PySem.W.Frag) (x : Str) : Bool := (He.Fa.cls x).ok K && (He.Fa.mkr x).ok K
theorem mkB_cls {K : PySem.W.Frag} {x : Str} (h : mkB K x = true) : Cls K (He.ga K x) := He.cls_ok (He.ba h).1
theorem mkB_mk {K : PySem.W.Frag} {x : Str} (h : mkB K x = true) : Mk K (He.ga K x) (Way.ad K (.meth x "__init__")) := He.mkr_ok (He.ba h).2
/-- x.m is a property -/
def propB (K : PySem.W.Frag) (x m : Str) : Bool :=
  let p := He.ma K (He.ga K x) m
  He.eqO (PySem.W.findIn K (.ref (He.ga K x)) m) (some (some (.ref p))) && (He.eqO (PySem.W.specialIn K (.ref p) "__get__") (some (some (.builtin "property.__get__"))) &&
    (decide (PySem.W.takesIn K (.ref p) = some true) && (match PySem.W.recIn K p "property" with
      | some (.ref _ :: _) => true
      | _ => false)))
theorem rec_first {K : PySem.W.Frag} {T : String} {p : Addr} (h : (match PySem.W.recIn K p T with
      | some (.ref _ :: _) => true
      | _ => false) = true) : ∃ rest, PySem.W.recIn K p T = some (.ref (recAd K T p) :: rest) := by
  unfold recAd
  cases e : PySem.W.recIn K p T with
  | none =>
    rw [e] at h
    cases h
  | some l =>
    rw [e] at h
    cases l with
    | nil => cases h
    | cons v r =>
      cases v with
      | ref g => exact ⟨r, rfl⟩
      | _ => cases h
theorem propB_ok {K : PySem.W.Frag} {x m : Str} (h : propB K x m = true) : PropOf K (He.ga K x) m (He.ma K (He.ga K x) m) (Way.ad K (.prop x m)) := by
  obtain ⟨h1, h⟩ := He.ba h
  obtain ⟨h2, h⟩ := He.ba h
  obtain ⟨h3, h4⟩ := He.ba h
  exact ⟨He.eqO_ok h1, He.eqO_ok h2, of_decide_eq_true h3, rec_first h4⟩
end Tc
/-! Texts of numbers and of stretches: written, cut, read back. -/
namespace Tc
open PySem TL
abbrev val (l : List Nat) : Nat := NumText.digitsVal l
/-! ### cut at the dashes -/
end Tc
/-! Data that repr shows, told by what bounds them. -/
namespace Tc
open PySem PySem.Spec PyProof.Rows L2
structure Fine (d : PyData) (n k : Nat) : Prop where
  lay : d.canLay0 = true
  sh : d.showable = true
  short : d.intsShort 13 = true
  wt : d.weight ≤ n
  dp : d.depth ≤ k
structure FineAll (ds : List PyData) (n k : Nat) : Prop where
  lay : PyData.canLayAll0 ds = true
  sh : PyData.showableAll ds = true
  short : PyData.intsShortAll 13 ds = true
  wt : PyData.weightAll ds ≤ n
  dp : PyData.depthAll ds ≤ k
theorem Fine.good {d : PyData} {n k : Nat} (f : Fine d n k) (hn : n ≤ 1000000) (hk : k ≤ 60) : Good d := by
  refine ⟨f.sh, Nat.le_trans f.dp (by omega), ?_⟩
  have l : PyData.layable0 d = true := by
    unfold PyData.layable0
    have h1 : decide (PyData.depth d ≤ 64) = true := decide_eq_true (Nat.le_trans f.dp (by omega))
    have h2 : decide (PyData.weight d ≤ 2 ^ 20) = true := decide_eq_true (Nat.le_trans f.wt (by omega))
    rw [f.lay, h1, h2]
    rfl
  exact Nat.le_trans (shown_le13 l f.short) (by decide)
theorem Fine.mono {d : PyData} {n k m l : Nat} (f : Fine d n k) (h1 : n ≤ m) (h2 : k ≤ l) : Fine d m l := ⟨f.lay, f.sh, f.short, Nat.le_trans f.wt h1, Nat.le_trans f.dp h2⟩
theorem Fine.non : Fine .none 0 0 := ⟨rfl, rfl, rfl, Nat.le_refl 0, Nat.le_refl 0⟩
theorem Fine.bl (b : Bool) : Fine (.bool b) 0 0 := ⟨rfl, rfl, rfl, Nat.le_refl 0, Nat.le_refl 0⟩
theorem Fine.str {x : Str} (h : x.cps.all (· < 0x110000) = true) : Fine (.str x) x.length 0 := ⟨h, rfl, rfl, Nat.le_refl _, Nat.le_refl 0⟩
theorem Fine.int {i : Int} (h0 : -1 ≤ i) (h1 : i ≤ 100000) : Fine (.int i) 18 0 := by
  have hb : i.natAbs < 2 ^ 17 := by omega
  have lg : i.natAbs.log2 < 17 := by
    by_cases e : i.natAbs = 0
    · rw [e]
      decide
    · exact (Nat.log2_lt e).mpr hb
  refine ⟨rfl, decide_eq_true (by omega), ?_, ?_, Nat.le_refl 0⟩
  · refine decide_eq_true ?_
    show (Str.ofString (toString i)).length ≤ 13
    by_cases z : i = -1
    · rw [z]
      decide
    · exact Nat.le_trans (PyProof.Rows.toString_length_le (by omega) (k := 6) (by decide) (by omega)) (by decide)
  · show (if i == 0 then 0 else i.natAbs.log2 + 1) ≤ 18
    split <;> omega
theorem FineAll.nil {k : Nat} : FineAll [] 0 k := ⟨rfl, rfl, rfl, Nat.le_refl 0, Nat.zero_le k⟩
theorem FineAll.cons {d : PyData} {ds : List PyData} {n m k l : Nat} (f : Fine d n l) (g : FineAll ds m k) (h : l ≤ k) : FineAll (d :: ds) (n + 1 + m) k := by
  refine ⟨?_, ?_, ?_, ?_, ?_⟩
  · show (d.canLay0 && PyData.canLayAll0 ds) = true
    rw [f.lay, g.lay] <;> rfl
  · show (d.showable && PyData.showableAll ds) = true
    rw [f.sh, g.sh] <;> rfl
  · show (d.intsShort 13 && PyData.intsShortAll 13 ds) = true
    rw [f.short, g.short] <;> rfl
  · show d.weight + 1 + PyData.weightAll ds ≤ _
    have := f.wt
    have := g.wt
    omega
  · show max d.depth (PyData.depthAll ds) ≤ k
    have := f.dp
    have := g.dp
    omega
theorem Fine.lst {ds : List PyData} {n k : Nat} (f : FineAll ds n k) : Fine (.list ds) n (k + 1) := ⟨f.lay, f.sh, f.short, f.wt, Nat.succ_le_succ f.dp⟩
theorem Fine.tup {ds : List PyData} {n k : Nat} (f : FineAll ds n k) : Fine (.tuple ds) n (k + 1) := ⟨f.lay, f.sh, f.short, f.wt, Nat.succ_le_succ f.dp⟩
end Tc
/-! list of a text. -/
namespace Tc
open PySem PySem.Spec PyProof.Rows L2 TL
end Tc
/-! A def whose code object is known, for those that make lambdas. -/
namespace Tc
open PySem PySem.Spec PyProof.Rows L2
section
variable {P : Program} {w : World} {K : PySem.W.Frag} {mg : Str → Option Value} {base : Heap}
/-- as Fun.okG, its code object known -/
theorem Fun.okGC {CX : CXT} {x qual : Str} {st : Stmt} {f : Addr} {fd : FuncData} {N ps : List Str}
    {k : Nat} {sp : Sp} {c : Addr} (F : Fun K x qual st f fd) (hcode : fd.code = .ref c) (S : FnScope N ps (defScope st))
    (len : ∀ vs H Q E, sp vs H Q E → vs.length = ps.length)
    (hbody : ∀ (A : Around) (outer : List Env) (s : Shared) (H : Hp) (vs : List V)
      (Q : VK) (E : XK), Room k (A.deeper (envOfC qual (defScope st) s.heap.objs.size f (.ref c))) →
      (A.deeper (envOfC qual (defScope st) s.heap.objs.size f (.ref c))).guards = some [] →
      sp vs H Q E →
      ∃ t, PSs (cxOf CX P w K mg base N qual (defScope st) f (.ref c) A outer s H E) (defBody st) t ∧
        t { nx := fun _ H' => Q .non H', rt := Q } (start N vs) H) :
    FnG P w K mg base CX (k + 1) f fd ps sp := by
  obtain ⟨oc, od, kV, doc, pm, an, cdv, ct, osl, rfl, lk, hcd⟩ := F.ex
  have ec : cdv = .ref c := hcode
  subst ec
  refine ⟨len, ?_⟩
  intro A outer s H args us vs Q E hr hgd e0 hb r hsp
  have vl := len _ _ _ _ hsp
  have kin : K.In s.heap := e0.mod.kin.keeps (fun b o e => (e0.bs b o e).1)
  have nlim : s.heap.NoLimit := e0.mod.nolimit.keeps (fun b o e => (e0.bs b o e).1)
  have kinds : ∀ y ∈ ps.zip us, (defScope st).names.lookup y.1 = some .local ∨
      ((defScope st).names.lookup y.1 = some .cell ∧
        ((cellsFrom (s.heap.objs.size + 1) (defScope st).names []).lookup y.1).isSome = true) := by
    rintro ⟨n, v⟩ hy
    cases S.par n (List.of_mem_zip hy).1 with
    | inl q => exact .inl q
    | inr q => exact .inr ⟨q, PySem.W.cellsFrom_some _ _ _ (.inl q)⟩
  refine codeAny_call_function hr.depth (kin _ _ lk) rfl S.co S.gen rfl
    (PySem.W.codeRec_of kin hcd) (hb _ _ _ _ ?_)
  refine wpAny_newFunctionEnv_cells S.kind kinds (fun env he s1 x => ?_)
  subst he
  refine ⟨nlim.keeps x.toInCall.keep, codeAny_func ?_⟩
  obtain ⟨t, ht, hq⟩ := hbody A outer s H vs Q E (hr.deeper _) hgd hsp
  have I := inv_start (CX := CX) (P := P) (w := w) (mg := mg) (base := base) (E := E) S hr.hd e0 vl r x
  refine wpAny_mono (ht.run [] s1 (start N vs) H _ I hq) (fun fl s' hs => ?_) (fun e s' hs => hs)
  have close : ∀ {σ' : L2.St} {H' : Hp} {v : V} {u : Value},
      Inv (cxOf CX P w K mg base N qual (defScope st) f (.ref c) A outer s H E) [] σ' H' s' →
      RelV v u → Q v H' → CE outer P w H s Q u s' := by
    intro σ' H' v u J rv q
    exact ⟨v, H', J.os, J.bare, J.base, J.hok, rv, q⟩
  cases fl with
  | ret u => obtain ⟨v, σ', H', J, rv, q⟩ := hs; exact close J rv q
  | next => obtain ⟨σ', H', J, q⟩ := hs; exact close (v := V.non) (u := Value.none) J rfl q
  | brk => obtain ⟨_, _, _, q⟩ := hs; exact False.elim q
  | cont => obtain ⟨_, _, _, q⟩ := hs; exact False.elim q
end
end Tc
/-! Data and a list that changes. -/
namespace Tc
open PySem PySem.Spec PyProof.Rows L2
end Tc
/-! Data and tables. -/
namespace Tc
open PySem PySem.Spec PyProof.Rows L2
open LamX (Tabs TabS ExtN CodeO)
mutual
theorem Dv.ext {H H' : Hp} (s : ExtN H H') : ∀ {v : V} {d : PyData}, Dv H v d → Dv H' v d
  | _, _, .non => .non
  | _, _, .bl b => .bl b
  | _, _, .int i => .int i
  | _, _, .str x => .str x
  | _, _, .lst h a => .lst (h.elim (fun z => .inl (s _ _ z fun _ e => nomatch e)) fun ⟨o, z⟩ => .inr ⟨o, s _ _ z fun _ e => nomatch e⟩) (DvAll.ext s a)
  | _, _, .tup h a => .tup (h.elim (fun z => .inl (s _ _ z fun _ e => nomatch e)) fun ⟨o, z⟩ => .inr ⟨o, s _ _ z fun _ e => nomatch e⟩) (DvAll.ext s a)
  | _, _, .dct h a => .dct (h.elim (fun z => .inl (s _ _ z fun _ e => nomatch e)) fun ⟨o, z⟩ => .inr ⟨o, s _ _ z fun _ e => nomatch e⟩) (DvKv.ext s a)
  | _, _, .ins h a => .ins (s _ _ h fun _ e => nomatch e) (DvNm.ext s a)
  | _, _, .cln h e a => .cln (s _ _ h fun _ e => nomatch e) e (DvAll.ext s a)
theorem DvNm.ext {H H' : Hp} (s : ExtN H H') : ∀ {gs : List (Str × V)} {ds : List (PyData × PyData)}, DvNm H gs ds → DvNm H' gs ds
  | _, _, .nil => .nil
  | _, _, .cons a b => .cons (Dv.ext s a) (DvNm.ext s b)
theorem DvAll.ext {H H' : Hp} (s : ExtN H H') : ∀ {vs : List V} {ds : List PyData}, DvAll H vs ds → DvAll H' vs ds
  | _, _, .nil => .nil
  | _, _, .cons a b => .cons (Dv.ext s a) (DvAll.ext s b)
theorem DvKv.ext {H H' : Hp} (s : ExtN H H') : ∀ {kvs : List (Key × V)} {ds : List (PyData × PyData)}, DvKv H kvs ds → DvKv H' kvs ds
  | _, _, .nil => .nil
  | _, _, .cons a b => .cons (Dv.ext s a) (DvKv.ext s b)
end
end Tc
/-! Several clauses, each of them with a name: except A as n .. except B as n. -/
namespace Tc
open PySem PySem.Spec PyProof.Rows L2
end Tc
/-! List comprehensions of any number of clauses, clause by clause. -/
namespace Tc
open PySem PySem.Spec PyProof.Rows L2
end Tc
namespace Tc
open PySem PySem.Spec PyProof.Rows L2
section
variable {X : Cx}
/-- a short text, so many times -/
theorem op_mul_str : OpR X (binaryOp .Mult) (fun x y H Q => ∃ (i : Str) (k : Int), x = .str i ∧ y = .int k ∧ i.length ≤ 16 ∧ -(2 ^ 63) ≤ k ∧ k ≤ 1048576 ∧ Q (.str (Txt.mul i k)) H) := by
  intro pins s σ H x y v u Q I rx ry h
  obtain ⟨i, k, rfl, rfl, h1, h2, h3, q⟩ := h
  obtain ⟨t, rfl⟩ := rx
  obtain ⟨t', rfl⟩ := ry
  exact PySem.W.KXi.mul rfl h1 h2 h3 fun t' k' _ _ => ⟨.str (Txt.mul i k), H, I.tok _, ⟨_, rfl⟩, q⟩
variable {CX : CXT} {k : Nat} {ps : List Str} {sp : Sp} {E : XK} {x : Str} {p pos : Pos}
end
end Tc
/-! Programs on data: what a piece of the program does, told of data alone; the heap is kept by the rules. -/
namespace Px
open PySem PySem.Spec PyProof.Rows L2 Tc
/-! ### the weakest readings -/
section
variable (X : Cx)
@[irreducible] def teW (e : Expr) : TE := fun σ H Q => ∀ (pins : List (Addr × Obj)) (s : Shared), Inv X pins σ H s → wpAny (model X.prog X.w) X.A (eval e X.env) (EP X pins σ Q) X.xe s
@[irreducible] def ttW (e : Expr) : TT := fun σ H Q => ∀ (pins : List (Addr × Obj)) (s : Shared), Inv X pins σ H s → wpAny (model X.prog X.w) X.A (isTrue e X.env (eval e X.env)) (TP X pins σ Q) X.xe s
@[irreducible] def twW (e : Expr) : TT := fun σ H Q => ∀ (whole : Sem Value) (pins : List (Addr × Obj)) (s : Shared), Inv X pins σ H s → wpAny (model X.prog X.w) X.A (isTrue e X.env whole) (TP X pins σ Q) X.xe s
@[irreducible] def taW (es : List Expr) : TA := fun σ H Q => ∀ (pos : Pos) (pins : List (Addr × Obj)) (s : Shared), Inv X pins σ H s → wpAny (model X.prog X.w) X.A (spliced (backTo pos (starEach es X.env))) (AP X pins σ Q) X.xe s
@[irreducible] def tsW (st : Stmt) : TS := fun D σ H => ∀ (pins : List (Addr × Obj)) (s : Shared), Inv X pins σ H s → wpAny (model X.prog X.w) X.A (exec st X.env) (SP X pins D) X.xe s
@[irreducible] def tssW (st : List Stmt) : TS := fun D σ H => ∀ (pins : List (Addr × Obj)) (s : Shared), Inv X pins σ H s → wpAny (model X.prog X.w) X.A (execs st X.env) (SP X pins D) X.xe s
variable {X}
theorem teI {e : Expr} {σ : L2.St} {H : Hp} {Q : VK} (h : ∀ (pins : List (Addr × Obj)) (s : Shared), Inv X pins σ H s → wpAny (model X.prog X.w) X.A (eval e X.env) (EP X pins σ Q) X.xe s) : teW X e σ H Q := by unfold teW; exact h
theorem teE {e : Expr} {σ : L2.St} {H : Hp} {Q : VK} (h : teW X e σ H Q) : ∀ (pins : List (Addr × Obj)) (s : Shared), Inv X pins σ H s → wpAny (model X.prog X.w) X.A (eval e X.env) (EP X pins σ Q) X.xe s := by unfold teW at h; exact h
theorem ttI {e : Expr} {σ : L2.St} {H : Hp} {Q : Bool → Hp → Prop} (h : ∀ (pins : List (Addr × Obj)) (s : Shared), Inv X pins σ H s → wpAny (model X.prog X.w) X.A (isTrue e X.env (eval e X.env)) (TP X pins σ Q) X.xe s) : ttW X e σ H Q := by unfold ttW; exact h
theorem ttE {e : Expr} {σ : L2.St} {H : Hp} {Q : Bool → Hp → Prop} (h : ttW X e σ H Q) : ∀ (pins : List (Addr × Obj)) (s : Shared), Inv X pins σ H s → wpAny (model X.prog X.w) X.A (isTrue e X.env (eval e X.env)) (TP X pins σ Q) X.xe s := by unfold ttW at h; exact h
theorem twI {e : Expr} {σ : L2.St} {H : Hp} {Q : Bool → Hp → Prop} (h : ∀ (whole : Sem Value) (pins : List (Addr × Obj)) (s : Shared), Inv X pins σ H s → wpAny (model X.prog X.w) X.A (isTrue e X.env whole) (TP X pins σ Q) X.xe s) : twW X e σ H Q := by unfold twW; exact h
theorem twE {e : Expr} {σ : L2.St} {H : Hp} {Q : Bool → Hp → Prop} (h : twW X e σ H Q) : ∀ (whole : Sem Value) (pins : List (Addr × Obj)) (s : Shared), Inv X pins σ H s → wpAny (model X.prog X.w) X.A (isTrue e X.env whole) (TP X pins σ Q) X.xe s := by unfold twW at h; exact h
theorem taI {es : List Expr} {σ : L2.St} {H : Hp} {Q : List V → Hp → Prop} (h : ∀ (pos : Pos) (pins : List (Addr × Obj)) (s : Shared), Inv X pins σ H s → wpAny (model X.prog X.w) X.A (spliced (backTo pos (starEach es X.env))) (AP X pins σ Q) X.xe s) : taW X es σ H Q := by unfold taW; exact h
theorem taE {es : List Expr} {σ : L2.St} {H : Hp} {Q : List V → Hp → Prop} (h : taW X es σ H Q) : ∀ (pos : Pos) (pins : List (Addr × Obj)) (s : Shared), Inv X pins σ H s → wpAny (model X.prog X.w) X.A (spliced (backTo pos (starEach es X.env))) (AP X pins σ Q) X.xe s := by unfold taW at h; exact h
theorem tsI {st : Stmt} {D : Ends} {σ : L2.St} {H : Hp} (h : ∀ (pins : List (Addr × Obj)) (s : Shared), Inv X pins σ H s → wpAny (model X.prog X.w) X.A (exec st X.env) (SP X pins D) X.xe s) : tsW X st D σ H := by unfold tsW; exact h
theorem tsE {st : Stmt} {D : Ends} {σ : L2.St} {H : Hp} (h : tsW X st D σ H) : ∀ (pins : List (Addr × Obj)) (s : Shared), Inv X pins σ H s → wpAny (model X.prog X.w) X.A (exec st X.env) (SP X pins D) X.xe s := by unfold tsW at h; exact h
theorem tssI {st : List Stmt} {D : Ends} {σ : L2.St} {H : Hp} (h : ∀ (pins : List (Addr × Obj)) (s : Shared), Inv X pins σ H s → wpAny (model X.prog X.w) X.A (execs st X.env) (SP X pins D) X.xe s) : tssW X st D σ H := by unfold tssW; exact h
theorem tssE {st : List Stmt} {D : Ends} {σ : L2.St} {H : Hp} (h : tssW X st D σ H) : ∀ (pins : List (Addr × Obj)) (s : Shared), Inv X pins σ H s → wpAny (model X.prog X.w) X.A (execs st X.env) (SP X pins D) X.xe s := by unfold tssW at h; exact h
theorem pe_W {e : Expr} : PE X e (teW X e) := ⟨fun pins s _ _ _ I h => teE h pins s I⟩
theorem pt_W {e : Expr} : PT X e (ttW X e) := ⟨fun pins s _ _ _ I h => ttE h pins s I⟩
theorem pw_W {e : Expr} : PW X e (twW X e) := ⟨fun w pins s _ _ _ I h => twE h w pins s I⟩
theorem pa_W {es : List Expr} : PA X es (taW X es) := ⟨fun pos pins s _ _ _ I h => taE h pos pins s I⟩
theorem ps_W {st : Stmt} : PS X st (tsW X st) := ⟨fun pins s _ _ _ I h => tsE h pins s I⟩
theorem pss_W {st : List Stmt} : PSs X st (tssW X st) := ⟨fun pins s _ _ _ I h => tssE h pins s I⟩
theorem pe_of {e : Expr} {t : TE} (p : PE X e t) {σ : L2.St} {H : Hp} {Q : VK} (h : t σ H Q) : teW X e σ H Q := teI fun pins s I => p.run pins s σ H Q I h
theorem pt_of {e : Expr} {t : TT} (p : PT X e t) {σ : L2.St} {H : Hp} {Q : Bool → Hp → Prop} (h : t σ H Q) : ttW X e σ H Q := ttI fun pins s I => p.run pins s σ H Q I h
theorem pw_of {e : Expr} {t : TT} (p : PW X e t) {σ : L2.St} {H : Hp} {Q : Bool → Hp → Prop} (h : t σ H Q) : twW X e σ H Q := twI fun w pins s I => p.run w pins s σ H Q I h
theorem pa_of {es : List Expr} {t : TA} (p : PA X es t) {σ : L2.St} {H : Hp} {Q : List V → Hp → Prop} (h : t σ H Q) : taW X es σ H Q := taI fun pos pins s I => p.run pos pins s σ H Q I h
theorem ps_of {st : Stmt} {t : TS} (p : PS X st t) {D : Ends} {σ : L2.St} {H : Hp} (h : t D σ H) : tsW X st D σ H := tsI fun pins s I => p.run pins s σ H D I h
theorem pss_of {st : List Stmt} {t : TS} (p : PSs X st t) {D : Ends} {σ : L2.St} {H : Hp} (h : t D σ H) : tssW X st D σ H := tssI fun pins s I => p.run pins s σ H D I h
theorem star_cons {e : Expr} {es : List Expr} {env : Env} (h : (match e with | .Starred .. => false | _ => true) = true) : starEach (e :: es) env = (false, eval e env) :: starEach es env := by
  cases e <;> first | rfl | cases h
end
/-! ### what the slots hold -/
/-- nothing that is known; data; this very value; a list that no other slot's data has in it -/
inductive Sl where
  | no
  | d (x : PyData)
  | v (x : V)
  | own (a : Addr) (ds : List PyData)
/-- what stood before (fr), and what of it data may lie in (hs) -/
structure Bas where
  fr : Hp
  hs : Hp
  T : List (Addr × Str) := []
/-- it grows, beside what else stood -/
structure Grow (F Hs Hs' : Hp) : Prop where
  same : Same Hs Hs'
  off : ∀ b, Hs b = none → F b ≠ none → Hs' b = none
theorem Grow.refl (F Hs : Hp) : Grow F Hs Hs := ⟨Same.refl _, fun _ h _ => h⟩
theorem Grow.trans {F H1 H2 H3 : Hp} (a : Grow F H1 H2) (b : Grow F H2 H3) : Grow F H1 H3 := ⟨a.same.trans b.same, fun c h f => b.off c (a.off c h f) f⟩
theorem Grow.mono {F G H1 H2 : Hp} (a : Grow F H1 H2) (h : ∀ b, G b ≠ none → F b ≠ none) : Grow G H1 H2 := ⟨a.same, fun c n f => a.off c n (h c f)⟩
def SlOk (F Hs H : Hp) (o : Option (Option V)) : Sl → Prop
  | .no => True
  | .d x => ∃ v, o = some (some v) ∧ Dv Hs v x
  | .v x => o = some (some x)
  | .own a ds => o = some (some (.ref a)) ∧ F a = none ∧ Hs a = none ∧ ∃ vs, H a = some (.lst vs) ∧ DvAll Hs vs ds
/-- the tables of lambdas stand there, and no data is one of them -/
def TbN (T : List (Addr × Str)) (Hs H : Hp) : Prop := LamX.Tabs T H ∧ ∀ p ∈ T, Hs p.1 = none
/-- neither a table of lambdas nor a code -/
def noTb : HO → Bool
  | .tbl _ => false
  | .ext _ => false
  | _ => true
theorem tabs_put {T : List (Addr × Str)} {H H' : Hp} {a : Addr} {u : HO} (h : LamX.Tabs T H) (hv : H a = some u) (nu : noTb u = true) (k : ∀ b u, H b = some u → b ≠ a → H' b = some u) : LamX.Tabs T H' := fun p hp => by
  obtain ⟨ps, h1, h2, h3⟩ := h p hp
  have n1 : p.1 ≠ a := fun z => by rw [z, hv] at h1; cases h1; cases nu
  exact ⟨ps, k _ _ h1 n1, h2, fun pos cv e => by
    obtain ⟨c, e1, e2⟩ := h3 pos cv e
    have n2 : c ≠ a := fun z => by rw [z, hv] at e2; unfold LamX.CodeO at e2; cases e2; cases nu
    exact ⟨c, e1, k _ _ e2 n2⟩⟩
theorem tab_there {T : List (Addr × Str)} {Hs H : Hp} (h : TbN T Hs H) {p : Addr × Str} (hp : p ∈ T) : ∃ ps, H p.1 = some (.tbl ps) := by
  obtain ⟨ps, h1, _⟩ := h.1 p hp
  exact ⟨ps, h1⟩
theorem tabs_same {T : List (Addr × Str)} {Hs H H' : Hp} (h : TbN T Hs H) (s : Same H H') : TbN T Hs H' := ⟨fun p hp => by
  obtain ⟨ps, h1, h2, h3⟩ := h.1 p hp
  exact ⟨ps, s _ _ h1, h2, fun pos cv e => by
    obtain ⟨c, e1, e2⟩ := h3 pos cv e
    exact ⟨c, e1, s _ _ e2⟩⟩, h.2⟩
theorem tabs_new {T : List (Addr × Str)} {Hs H : Hp} {q : Addr} {o o2 : HO} (h : TbN T Hs H) (hq : H q = none) : TbN T (upd Hs q o) (upd H q o2) := ⟨(tabs_same h (Same.new hq)).1, fun p hp => by
  obtain ⟨ps, e⟩ := tab_there h hp
  have n : p.1 ≠ q := fun z => by rw [z, hq] at e; cases e
  rw [upd_ne n]
  exact h.2 p hp⟩
theorem tabs_step {T : List (Addr × Str)} {Hs H Hs' H' : Hp} (h : TbN T Hs H) (s : Same H H') (g : Grow H Hs Hs') : TbN T Hs' H' := ⟨(tabs_same h s).1, fun p hp => by
  obtain ⟨ps, e⟩ := tab_there h hp
  exact g.off _ (h.2 p hp) (by rw [e]; exact fun z => nomatch z)⟩
theorem tabs_fz {T : List (Addr × Str)} {Hs H : Hp} {a : Addr} {ws : List V} {o : HO} (h : TbN T Hs H) (hv : H a = some (.lst ws)) : TbN T (upd Hs a o) H := ⟨h.1, fun p hp => by
  obtain ⟨ps, e⟩ := tab_there h hp
  have n : p.1 ≠ a := fun z => by rw [z, hv] at e; cases e
  rw [upd_ne n]
  exact h.2 p hp⟩
theorem tabs_updT {T : List (Addr × Str)} {Hs H : Hp} {a : Addr} {u o : HO} (h : TbN T Hs H) (hv : H a = some u) (nu : noTb u = true) : TbN T Hs (upd H a o) := ⟨tabs_put h.1 hv nu fun b u e n => (upd_ne n).trans e, h.2⟩
theorem tabs_upd {T : List (Addr × Str)} {Hs H : Hp} {a : Addr} {ws : List V} {o : HO} (h : TbN T Hs H) (hv : H a = some (.lst ws)) : TbN T Hs (upd H a o) := tabs_updT h hv rfl
theorem tabs_pail {T : List (Addr × Str)} {Hs Hs' H H' : Hp} {a : Addr} {ws : List V} (h : TbN T Hs H) (hv : H a = some (.lst ws)) (k : ∀ b u, H b = some u → b ≠ a → H' b = some u) (g : Grow H Hs Hs') : TbN T Hs' H' := ⟨tabs_put h.1 hv rfl k, fun p hp => by
  obtain ⟨ps, e⟩ := tab_there h hp
  exact g.off _ (h.2 p hp) (by rw [e]; exact fun z => nomatch z)⟩
theorem tabs_nil {Hs H : Hp} : TbN [] Hs H := ⟨fun _ h => (nomatch h), fun _ h => (nomatch h)⟩
structure Sx (B : Bas) (Hs : Hp) (σ : L2.St) (H : Hp) (Γ : List Sl) : Prop where
  fr : Same B.fr H
  gr : Grow B.fr B.hs Hs
  sub : Same Hs H
  len : σ.length = Γ.length
  sl : ∀ (i : Nat) (s : Sl), Γ[i]? = some s → SlOk B.fr Hs H σ[i]? s
  ap : ∀ (i j : Nat) (a : Addr) (ds : List PyData) (b : Addr) (es : List PyData), Γ[i]? = some (.own a ds) → Γ[j]? = some (.own b es) → i ≠ j → a ≠ b
  tb : TbN B.T Hs H
section
variable {B : Bas} {Hs : Hp} {σ : L2.St} {H : Hp} {Γ : List Sl}
theorem Sx.dat (S : Sx B Hs σ H Γ) {i : Nat} {x : PyData} (h : Γ[i]? = some (.d x)) : ∃ v, σ[i]? = some (some v) ∧ Dv Hs v x := S.sl i _ h
theorem Sx.val (S : Sx B Hs σ H Γ) {i : Nat} {x : V} (h : Γ[i]? = some (.v x)) : σ[i]? = some (some x) := S.sl i _ h
theorem Sx.lst (S : Sx B Hs σ H Γ) {i : Nat} {a : Addr} {ds : List PyData} (h : Γ[i]? = some (.own a ds)) : σ[i]? = some (some (.ref a)) ∧ B.fr a = none ∧ Hs a = none ∧ ∃ vs, H a = some (.lst vs) ∧ DvAll Hs vs ds := S.sl i _ h
theorem ne_new {H : Hp} {p b : Addr} {o : HO} (h : H p = none) (e : H b = some o) : b ≠ p := fun z => by rw [z, h] at e; cases e
theorem both {Hs H : Hp} {p : Addr} {o : HO} (s : Same Hs H) : Same (upd Hs p o) (upd H p o) := fun b u e => by
  by_cases z : b = p
  · subst z
    rw [upd_same] at e ⊢
    exact e
  · rw [upd_ne z] at e ⊢
    exact s b u e
/-- the slots stay where the data grow and no list of theirs changes -/
theorem SlOk.mono {F Hs Hs' H H' : Hp} {o : Option (Option V)} {s : Sl} (h : SlOk F Hs H o s) (k : Same Hs Hs') (l : ∀ a ds, s = .own a ds → Hs' a = none ∧ H' a = H a) : SlOk F Hs' H' o s := by
  cases s with
  | no => exact trivial
  | d x =>
    obtain ⟨v, e, d⟩ := h
    exact ⟨v, e, d.mono k⟩
  | v x => exact h
  | own a ds =>
    obtain ⟨e, f, n, vs, hv, hd⟩ := h
    obtain ⟨n', e'⟩ := l a ds rfl
    exact ⟨e, f, n', vs, e'.trans hv, hd.mono k⟩
/-- a new object, to be data -/
theorem Sx.new (S : Sx B Hs σ H Γ) {p : Addr} {o : HO} (hp : H p = none) : Same Hs (upd Hs p o) ∧ Sx B (upd Hs p o) σ (upd H p o) Γ := by
  have hsp := S.sub.free hp
  have k : Same Hs (upd Hs p o) := Same.new hsp
  refine ⟨k, fun b u e => (Same.new hp) b u (S.fr b u e), S.gr.trans ⟨k, fun b n f => ?_⟩, both S.sub, S.len, fun i s h => (S.sl i s h).mono k fun a ds e => ?_, S.ap, tabs_new S.tb hp⟩
  · have : b ≠ p := by
      rintro rfl
      cases q : B.fr b with
      | none => exact f q
      | some u => exact nomatch (S.fr b u q).symm.trans hp
    exact (upd_ne this).trans n
  · subst e
    obtain ⟨_, _, n, vs, hv, _⟩ := S.lst h
    have : a ≠ p := ne_new hp hv
    exact ⟨(upd_ne this).trans n, upd_ne this⟩
/-- a new object that is no data (yet) -/
theorem Sx.aside (S : Sx B Hs σ H Γ) {p : Addr} {o : HO} (hp : H p = none) : Sx B Hs σ (upd H p o) Γ := by
  refine ⟨fun b u e => (Same.new hp) b u (S.fr b u e), S.gr, fun b u e => (Same.new hp) b u (S.sub b u e), S.len, fun i s h => (S.sl i s h).mono (Same.refl _) fun a ds e => ?_, S.ap, tabs_same S.tb (Same.new hp)⟩
  subst e
  obtain ⟨_, _, n, vs, hv, _⟩ := S.lst h
  exact ⟨n, upd_ne (ne_new hp hv)⟩
/-- all slots of the heap go on to another one -/
theorem Sx.step (S : Sx B Hs σ H Γ) {Hs' H' : Hp} (k : Grow H Hs Hs') (s : Same H H') (u : Same Hs' H') : Same Hs Hs' ∧ Sx B Hs' σ H' Γ := by
  refine ⟨k.same, S.fr.trans s, S.gr.trans (k.mono fun b f => ?_), u, S.len, fun i x h => (S.sl i x h).mono k.same fun a ds e => ?_, S.ap, tabs_step S.tb s k⟩
  · cases q : B.fr b with
    | none => exact absurd q f
    | some o =>
      rw [S.fr b o q]
      exact fun z => nomatch z
  · subst e
    obtain ⟨_, _, n, vs, hv, _⟩ := S.lst h
    exact ⟨k.off a n (by rw [hv]; exact fun z => nomatch z), (s a _ hv).trans hv.symm⟩
theorem get_set {α : Type} {l : List α} {i j : Nat} {x s : α} (h : (l.set i x)[j]? = some s) : (j = i ∧ s = x) ∨ (j ≠ i ∧ l[j]? = some s) := by
  by_cases e : i = j
  · subst e
    rw [List.getElem?_set] at h
    simp only [if_true] at h
    split at h
    · exact .inl ⟨rfl, (Option.some.inj h).symm⟩
    · cases h
  · rw [List.getElem?_set_ne e] at h
    exact .inr ⟨fun z => e z.symm, h⟩
/-- a slot is given data, or what is no list of its own -/
theorem Sx.put (S : Sx B Hs σ H Γ) {i : Nat} {v : V} {s : Sl} (hs : ∀ a ds, s ≠ .own a ds) (hi : i < Γ.length) (h : SlOk B.fr Hs H (some (some v)) s) : Sx B Hs (σ.set i (some v)) H (Γ.set i s) := by
  refine ⟨S.fr, S.gr, S.sub, by rw [List.length_set, List.length_set]; exact S.len, fun j t e => ?_, fun j k a ds b es e1 e2 n => ?_, S.tb⟩
  · rcases get_set e with ⟨rfl, rfl⟩ | ⟨n, e⟩
    · rw [List.getElem?_set_self (by rw [S.len]; exact hi)]
      exact h
    · rw [List.getElem?_set_ne fun z => n z.symm]
      exact S.sl j t e
  · rcases get_set e1 with ⟨rfl, z⟩ | ⟨n1, e1⟩
    · exact absurd z.symm (hs a ds)
    · rcases get_set e2 with ⟨rfl, z⟩ | ⟨n2, e2⟩
      · exact absurd z.symm (hs b es)
      · exact S.ap j k a ds b es e1 e2 n
theorem Sx.putD (S : Sx B Hs σ H Γ) {i : Nat} {v : V} {x : PyData} (hi : i < Γ.length) (h : Dv Hs v x) : Sx B Hs (σ.set i (some v)) H (Γ.set i (.d x)) := S.put (fun _ _ z => nomatch z) hi ⟨v, rfl, h⟩
/-- a list of no other one's -/
def Alone (Γ : List Sl) (a : Addr) : Prop := ∀ (i : Nat) (b : Addr) (es : List PyData), Γ[i]? = some (.own b es) → b ≠ a
/-- a slot is given a list of its own -/
theorem Sx.putL (S : Sx B Hs σ H Γ) {i : Nat} {a : Addr} {vs : List V} {ds : List PyData} (hi : i < Γ.length) (f : B.fr a = none) (n : Hs a = none) (ha : H a = some (.lst vs)) (h : DvAll Hs vs ds) (al : Alone Γ a) : Sx B Hs (σ.set i (some (.ref a))) H (Γ.set i (.own a ds)) := by
  refine ⟨S.fr, S.gr, S.sub, by rw [List.length_set, List.length_set]; exact S.len, fun j t e => ?_, fun j k b es c fs e1 e2 n => ?_, S.tb⟩
  · rcases get_set e with ⟨rfl, rfl⟩ | ⟨n, e⟩
    · rw [List.getElem?_set_self (by rw [S.len]; exact hi)]
      exact ⟨rfl, f, ‹_›, vs, ha, h⟩
    · rw [List.getElem?_set_ne fun z => n z.symm]
      exact S.sl j t e
  · rcases get_set e1 with ⟨rfl, z⟩ | ⟨n1, d1⟩
    · rcases get_set e2 with ⟨rfl, z2⟩ | ⟨n2, d2⟩
      · exact absurd rfl n
      · cases z
        exact fun z => al k c fs d2 z.symm
    · rcases get_set e2 with ⟨rfl, z2⟩ | ⟨n2, d2⟩
      · cases z2
        exact al j b es d1
      · exact S.ap j k b es c fs d1 d2 n
/-- it becomes data, and is no longer changed -/
theorem Sx.freeze (S : Sx B Hs σ H Γ) {i : Nat} {a : Addr} {ds : List PyData} (h : Γ[i]? = some (.own a ds)) : ∃ Hs', Same Hs Hs' ∧ Sx B Hs' σ H (Γ.set i (.d (.list ds))) ∧ Dv Hs' (.ref a) (.list ds) := by
  obtain ⟨e, f, n, vs, hv, hd⟩ := S.lst h
  have k : Same Hs (upd Hs a (.lst vs)) := Same.new n
  have dv : Dv (upd Hs a (.lst vs)) (.ref a) (.list ds) := .lst (.inl upd_same) (hd.mono k)
  refine ⟨upd Hs a (.lst vs), k, ⟨S.fr, S.gr.trans ⟨k, fun b nb fb => ?_⟩, fun b u eb => ?_, by rw [List.length_set]; exact S.len, fun j t ej => ?_, fun j l b es c fs e1 e2 ne => ?_, tabs_fz S.tb hv⟩, dv⟩
  · have : b ≠ a := fun z => fb (z ▸ f)
    exact (upd_ne this).trans nb
  · by_cases z : b = a
    · subst z
      rw [upd_same] at eb
      rw [hv]
      exact eb
    · rw [upd_ne z] at eb
      exact S.sub b u eb
  · rcases get_set ej with ⟨rfl, rfl⟩ | ⟨nj, ej⟩
    · exact ⟨_, e, dv⟩
    · refine (S.sl j t ej).mono k fun b es z => ?_
      subst z
      obtain ⟨_, _, nb, _⟩ := S.lst ej
      exact ⟨(upd_ne (S.ap j i b es a ds ej h nj)).trans nb, rfl⟩
  · rcases get_set e1 with ⟨_, z⟩ | ⟨_, e1⟩
    · cases z
    · rcases get_set e2 with ⟨_, z⟩ | ⟨_, e2⟩
      · cases z
      · exact S.ap j l b es c fs e1 e2 ne
/-- such a list is changed -/
theorem Sx.upd (S : Sx B Hs σ H Γ) {i : Nat} {a : Addr} {ds es : List PyData} {vs : List V} (h : Γ[i]? = some (.own a ds)) (d : DvAll Hs vs es) : Sx B Hs σ (L2.upd H a (.lst vs)) (Γ.set i (.own a es)) := by
  obtain ⟨e, f, n, ws, hv, hd⟩ := S.lst h
  refine ⟨fun b u eb => ?_, S.gr, fun b u eb => ?_, by rw [List.length_set]; exact S.len, fun j t ej => ?_, fun j l b fs c gs e1 e2 ne => ?_, tabs_upd S.tb hv⟩
  · have : b ≠ a := fun z => by rw [z, f] at eb; cases eb
    exact (upd_ne this).trans (S.fr b u eb)
  · have : b ≠ a := fun z => by rw [z, n] at eb; cases eb
    exact (upd_ne this).trans (S.sub b u eb)
  · rcases get_set ej with ⟨rfl, rfl⟩ | ⟨nj, ej⟩
    · exact ⟨e, f, n, vs, upd_same, d⟩
    · refine (S.sl j t ej).mono (Same.refl _) fun b fs z => ?_
      subst z
      obtain ⟨_, _, nb, _⟩ := S.lst ej
      exact ⟨nb, upd_ne (S.ap j i b fs a ds ej h nj)⟩
  · rcases get_set e1 with ⟨rfl, z⟩ | ⟨n1, d1⟩
    · cases z
      rcases get_set e2 with ⟨rfl, z⟩ | ⟨n2, d2⟩
      · exact absurd rfl ne
      · exact (S.ap l j c gs a ds d2 h n2).symm
    · rcases get_set e2 with ⟨rfl, z⟩ | ⟨n2, d2⟩
      · cases z
        exact S.ap j l b fs a ds d1 h n1
      · exact S.ap j l b fs c gs d1 d2 ne
end
end Px
/-! What a piece does to data: the judgements, and the rules of expressions. -/
namespace Px
open PySem PySem.Spec PyProof.Rows L2 Tc
section
variable (B : Bas) (X : Cx)
/-- an expression gives data -/
def GE (e : Expr) (Γ : List Sl) (φ : PyData → List Sl → Prop) : Prop := ∀ (Hs : Hp) (σ : L2.St) (H : Hp) (Q : VK), Sx B Hs σ H Γ →
  (∀ d Γ' v Hs' H', φ d Γ' → Same Hs Hs' → Sx B Hs' σ H' Γ' → Dv Hs' v d → Q v H') → teW X e σ H Q
/-- data to be looked at, a list of one's own too -/
def GB (e : Expr) (Γ : List Sl) (φ : PyData → List Sl → Prop) : Prop := ∀ (Hs : Hp) (σ : L2.St) (H : Hp) (Q : VK), Sx B Hs σ H Γ →
  (∀ d Γ' v Hs' H', φ d Γ' → Same Hs Hs' → Sx B Hs' σ H' Γ' → Dv H' v d → Q v H') → teW X e σ H Q
/-- a new list -/
def GF (e : Expr) (Γ : List Sl) (φ : List PyData → List Sl → Prop) : Prop := ∀ (Hs : Hp) (σ : L2.St) (H : Hp) (Q : VK), Sx B Hs σ H Γ →
  (∀ ds Γ' a vs Hs' H', φ ds Γ' → Same Hs Hs' → Sx B Hs' σ H' Γ' → B.fr a = none → Hs' a = none → Alone Γ' a → H' a = some (.lst vs) → DvAll Hs' vs ds → Q (.ref a) H') → teW X e σ H Q
/-- a list (k) or a tuple, its items data -/
def GQ (k : Bool) (e : Expr) (Γ : List Sl) (φ : List PyData → List Sl → Prop) : Prop := ∀ (Hs : Hp) (σ : L2.St) (H : Hp) (Q : VK), Sx B Hs σ H Γ →
  (∀ ds Γ' a vs Hs' H', φ ds Γ' → Same Hs Hs' → Sx B Hs' σ H' Γ' → (if k = true then SqL X.K H' a vs else SqT X.K H' a vs) → DvAll Hs' vs ds → Q (.ref a) H') → teW X e σ H Q
/-- a test -/
def GT (e : Expr) (Γ : List Sl) (φ : Bool → List Sl → Prop) : Prop := ∀ (Hs : Hp) (σ : L2.St) (H : Hp) (Q : Bool → Hp → Prop), Sx B Hs σ H Γ →
  (∀ b Γ' Hs' H', φ b Γ' → Same Hs Hs' → Sx B Hs' σ H' Γ' → Q b H') → ttW X e σ H Q
def GW (e : Expr) (Γ : List Sl) (φ : Bool → List Sl → Prop) : Prop := ∀ (Hs : Hp) (σ : L2.St) (H : Hp) (Q : Bool → Hp → Prop), Sx B Hs σ H Γ →
  (∀ b Γ' Hs' H', φ b Γ' → Same Hs Hs' → Sx B Hs' σ H' Γ' → Q b H') → twW X e σ H Q
/-- arguments -/
def GA (es : List Expr) (Γ : List Sl) (φ : List PyData → List Sl → Prop) : Prop := ∀ (Hs : Hp) (σ : L2.St) (H : Hp) (Q : List V → Hp → Prop), Sx B Hs σ H Γ →
  (∀ ds Γ' vs Hs' H', φ ds Γ' → Same Hs Hs' → Sx B Hs' σ H' Γ' → DvAll Hs' vs ds → Q vs H') → taW X es σ H Q
end
section
variable {B : Bas} {X : Cx} {Γ : List Sl} {pos : Pos}
/-! ### from one to another -/
theorem gb_of {e : Expr} {φ : PyData → List Sl → Prop} (h : GE B X e Γ φ) : GB B X e Γ φ := fun Hs σ H Q S k => h Hs σ H Q S fun d Γ' v Hs' H' p s T q => k d Γ' v Hs' H' p s T (q.mono T.sub)
theorem ge_ofF {e : Expr} {φ : PyData → List Sl → Prop} (h : GF B X e Γ fun ds Γ' => φ (.list ds) Γ') : GE B X e Γ φ := fun Hs σ H Q S k => h Hs σ H Q S fun ds Γ' a vs Hs' H' p s T f n al ha q => by
  have g : Same Hs' (upd Hs' a (.lst vs)) := Same.new n
  refine k (.list ds) Γ' (.ref a) (upd Hs' a (.lst vs)) H' p (s.trans g) ⟨T.fr, T.gr.trans ⟨g, fun b nb fb => ?_⟩, fun b u eb => ?_, T.len, fun j t ej => (T.sl j t ej).mono g fun b es z => ?_, T.ap, tabs_fz T.tb ha⟩ (.lst (.inl upd_same) (q.mono g))
  · exact (upd_ne fun z => fb (by rw [z]; exact f)).trans nb
  · by_cases z : b = a
    · subst z
      rw [upd_same] at eb
      rw [ha]
      exact eb
    · rw [upd_ne z] at eb
      exact T.sub b u eb
  · subst z
    obtain ⟨_, _, nb, _⟩ := T.lst ej
    exact ⟨(upd_ne (al j b es ej)).trans nb, rfl⟩
theorem rdL {K : PySem.W.Frag} {H : Hp} {a : Addr} {xs : List V} (h : Rd H a (.lst xs)) : SqL K H a xs := .inl h
theorem rdT {K : PySem.W.Frag} {H : Hp} {a : Addr} {xs : List V} (h : Rd H a (.tup xs)) : SqT K H a xs := .inl h
theorem rd_up {H H' : Hp} (s : Same H H') {a : Addr} {u : HO} (h : Rd H a u) : Rd H' a u := by
  rcases h with h | ⟨o, h⟩
  · exact .inl (s _ _ h)
  · exact .inr ⟨o, s _ _ h⟩
/-- data that are a list, a tuple -/
theorem gq_of {k : Bool} {e : Expr} {φ : List PyData → List Sl → Prop} (h : GE B X e Γ fun d Γ' => ∃ ds, d = (if k = true then .list ds else .tuple ds) ∧ φ ds Γ') : GQ B X k e Γ φ := fun Hs σ H Q S g => h Hs σ H Q S fun d Γ' v Hs' H' ⟨ds, e, p⟩ s T q => by
  subst e
  cases k with
  | true =>
    cases q with
    | lst r a => exact g ds Γ' _ _ Hs' H' p s T (rdL (rd_up T.sub r)) a
  | false =>
    cases q with
    | tup r a => exact g ds Γ' _ _ Hs' H' p s T (rdT (rd_up T.sub r)) a
theorem gq_ofF {e : Expr} {φ : List PyData → List Sl → Prop} (h : GF B X e Γ φ) : GQ B X true e Γ φ := fun Hs σ H Q S g => h Hs σ H Q S fun ds Γ' a vs Hs' H' p s T f n al ha q => g ds Γ' a vs Hs' H' p s T (.inl (.inl ha)) q
theorem gt_ofE {e : Expr} {φ : Bool → List Sl → Prop} (h : GE B X e Γ fun d Γ' => ∃ b, d = .bool b ∧ φ b Γ') (he : ∀ whole, isTrue e X.env whole = (do let v ← whole; standAt e.pos; holding [v] (truthy v)) := by intro _; rfl) : GT B X e Γ φ := fun Hs σ H Q S g =>
  pt_of (pt_val pe_W he) (show teW X e σ H _ from h Hs σ H _ S fun d Γ' v Hs' H' ⟨b, e, p⟩ s T q => by
    subst e
    cases q
    exact ⟨b, rfl, g b Γ' Hs' H' p s T⟩)
/-! ### names and constants -/
theorem ge_name (i : Nat) {x : Str} {y : PyData} {φ : PyData → List Sl → Prop} (hN : X.N[i]? = some x) (hΓ : Γ[i]? = some (.d y)) (hv : Vis X.env.scope x) (h : φ y Γ) (hd : (x == ("__debug__" : Str)) = false := by decide) (hcd : (x == ("__classdict__" : Str)) = false := by decide) :
    GE B X (.Name x pos) Γ φ := fun Hs σ H Q S g => by
  obtain ⟨v, e, d⟩ := S.dat hΓ
  exact pe_of (pe_var hN hv hd hcd) ⟨v, e, g y Γ v Hs H h (Same.refl _) S d⟩
/-- a list of one's own, given away -/
theorem ge_give (i : Nat) {x : Str} {a : Addr} {ds : List PyData} {φ : PyData → List Sl → Prop} (hN : X.N[i]? = some x) (hΓ : Γ[i]? = some (.own a ds)) (hv : Vis X.env.scope x) (h : φ (.list ds) (Γ.set i (.d (.list ds)))) (hd : (x == ("__debug__" : Str)) = false := by decide) (hcd : (x == ("__classdict__" : Str)) = false := by decide) :
    GE B X (.Name x pos) Γ φ := fun Hs σ H Q S g => by
  obtain ⟨Hs', k, T, d⟩ := S.freeze hΓ
  obtain ⟨e, _⟩ := S.lst hΓ
  exact pe_of (pe_var hN hv hd hcd) ⟨.ref a, e, g _ _ _ Hs' H h k T d⟩
/-- .. looked at -/
theorem gb_own (i : Nat) {x : Str} {a : Addr} {ds : List PyData} {φ : PyData → List Sl → Prop} (hN : X.N[i]? = some x) (hΓ : Γ[i]? = some (.own a ds)) (hv : Vis X.env.scope x) (h : φ (.list ds) Γ) (hd : (x == ("__debug__" : Str)) = false := by decide) (hcd : (x == ("__classdict__" : Str)) = false := by decide) :
    GB B X (.Name x pos) Γ φ := fun Hs σ H Q S g => by
  obtain ⟨e, f, n, vs, hv', d⟩ := S.lst hΓ
  exact pe_of (pe_var hN hv hd hcd) ⟨.ref a, e, g _ _ _ Hs H h (Same.refl _) S (.lst (.inl hv') (d.mono S.sub))⟩
theorem gq_own (i : Nat) {x : Str} {a : Addr} {ds : List PyData} {φ : List PyData → List Sl → Prop} (hN : X.N[i]? = some x) (hΓ : Γ[i]? = some (.own a ds)) (hv : Vis X.env.scope x) (h : φ ds Γ) (hd : (x == ("__debug__" : Str)) = false := by decide) (hcd : (x == ("__classdict__" : Str)) = false := by decide) :
    GQ B X true (.Name x pos) Γ φ := fun Hs σ H Q S g => by
  obtain ⟨e, f, n, vs, hv', d⟩ := S.lst hΓ
  exact pe_of (pe_var hN hv hd hcd) ⟨.ref a, e, g _ _ _ _ Hs H h (Same.refl _) S (.inl (.inl hv')) d⟩
theorem ge_con {e : Expr} {v : V} {d : PyData} {φ : PyData → List Sl → Prop} (p : PE X e (tC v)) (hd : ∀ H, Dv H v d) (h : φ d Γ) : GE B X e Γ φ := fun Hs σ H Q S g => pe_of p (g d Γ v Hs H h (Same.refl _) S (hd Hs))
theorem ge_int {i : Int} {j : Nat} {φ : PyData → List Sl → Prop} (h : φ (.int i) Γ) : GE B X (.Constant (.int i) j pos) Γ φ := ge_con pe_int (fun _ => .int i) h
theorem ge_str {i : Str} {j : Nat} {φ : PyData → List Sl → Prop} (h : φ (.str i) Γ) : GE B X (.Constant (.str i) j pos) Γ φ := ge_con pe_str (fun _ => .str i) h
theorem ge_bool {i : Bool} {j : Nat} {φ : PyData → List Sl → Prop} (h : φ (.bool i) Γ) : GE B X (.Constant (.bool i) j pos) Γ φ := ge_con pe_bl (fun _ => .bl i) h
theorem ge_none {j : Nat} {φ : PyData → List Sl → Prop} (h : φ .none Γ) : GE B X (.Constant .none j pos) Γ φ := ge_con pe_non (fun _ => .non) h
theorem ge_num {x : Str} {n : Int} {φ : PyData → List Sl → Prop} (hm : ∃ t, X.mg x = some (.int n t)) (hg : Gl X x) (h : φ (.int n) Γ) (hd : (x == ("__debug__" : Str)) = false := by decide) : GE B X (.Name x pos) Γ φ := ge_con (pe_num hm hg hd) (fun _ => .int n) h
/-! ### arguments, displays -/
theorem ga_nil {φ : List PyData → List Sl → Prop} (h : φ [] Γ) : GA B X [] Γ φ := fun Hs σ H Q S g => pa_of pa_nil (g [] Γ [] Hs H h (Same.refl _) S .nil)
theorem ga_cons {e : Expr} {es : List Expr} {φ : List PyData → List Sl → Prop} (h : GE B X e Γ fun d Γ1 => GA B X es Γ1 fun ds Γ2 => φ (d :: ds) Γ2) (hs : starEach (e :: es) X.env = (false, eval e X.env) :: starEach es X.env := by rfl) : GA B X (e :: es) Γ φ := fun Hs σ H Q S g =>
  pa_of (pa_cons pe_W pa_W hs) (h Hs σ H _ S fun d Γ1 v Hs1 H1 p s1 S1 dv => p Hs1 σ H1 _ S1 fun ds Γ2 vs Hs2 H2 q s2 S2 dvs => g (d :: ds) Γ2 (v :: vs) Hs2 H2 q (s1.trans s2) S2 (.cons (dv.mono s2) dvs))
theorem ge_tup {es : List Expr} {x1 : Nat} {φ : PyData → List Sl → Prop} (h : GA B X es Γ fun ds Γ' => ds.length ≤ sizeLine ∧ φ (.tuple ds) Γ') : GE B X (.Tuple es x1 pos) Γ φ := fun Hs σ H Q S g =>
  pe_of (pe_tup pa_W) (h Hs σ H _ S fun ds Γ' vs Hs' H' ⟨l, p⟩ s T dv => ⟨by rw [dv.len]; exact l, fun q hq => by
    obtain ⟨k, U⟩ := T.new (o := .tup vs) hq
    exact g (.tuple ds) Γ' (.ref q) _ _ p (s.trans k) U (.tup (.inl upd_same) (dv.mono k))⟩)
theorem alone_new {Hs : Hp} {σ : L2.St} {H : Hp} (S : Sx B Hs σ H Γ) {q : Addr} (hq : H q = none) : B.fr q = none ∧ Hs q = none ∧ Alone Γ q := ⟨S.fr.free hq, S.sub.free hq, fun i b es e z => by
  obtain ⟨_, _, _, vs, hv, _⟩ := S.lst e
  rw [z, hq] at hv
  cases hv⟩
theorem gf_list {es : List Expr} {φ : List PyData → List Sl → Prop} (h : GA B X es Γ fun ds Γ' => ds.length ≤ sizeLine ∧ φ ds Γ') : GF B X (.List es pos) Γ φ := fun Hs σ H Q S g =>
  pe_of (pe_lst pa_W) (h Hs σ H _ S fun ds Γ' vs Hs' H' ⟨l, p⟩ s T dv => ⟨by rw [dv.len]; exact l, fun q hq => by
    obtain ⟨f, n, al⟩ := alone_new T hq
    exact g ds Γ' q vs Hs' _ p s (T.aside hq) f n al upd_same dv⟩)
end
end Px
/-! Operators and comparisons, by the data. -/
namespace Px
open PySem PySem.Spec PyProof.Rows L2 Tc
theorem dvs_append {H : Hp} : ∀ {vs : List V} {ds : List PyData} {ws : List V} {es : List PyData}, DvAll H vs ds → DvAll H ws es → DvAll H (vs ++ ws) (ds ++ es)
  | _, _, _, _, .nil, h => h
  | _, _, _, _, .cons a r, h => .cons a (dvs_append r h)
theorem dvs_rep {H : Hp} {vs : List V} {ds : List PyData} (h : DvAll H vs ds) : ∀ n : Nat, DvAll H (List.replicate n vs).flatten (List.replicate n ds).flatten
  | 0 => .nil
  | n + 1 => by
    rw [List.replicate_succ, List.replicate_succ, List.flatten_cons, List.flatten_cons]
    exact dvs_append h (dvs_rep h n)
theorem dvs_get {H : Hp} : ∀ {vs : List V} {ds : List PyData} {i : Nat} {d : PyData}, DvAll H vs ds → ds[i]? = some d → ∃ v, vs[i]? = some v ∧ Dv H v d
  | _, _, _, _, .nil, e => by simp at e
  | _, _, 0, _, .cons a _, e => by
    simp at e
    subst e
    exact ⟨_, rfl, a⟩
  | _, _, i + 1, d, .cons _ r, e => by
    obtain ⟨v, h1, h2⟩ := dvs_get (i := i) (d := d) r (by simpa using e)
    exact ⟨v, by simpa using h1, h2⟩
theorem dvs_get' {H : Hp} : ∀ {vs : List V} {ds : List PyData} {i : Nat} {v : V}, DvAll H vs ds → vs[i]? = some v → ∃ d, ds[i]? = some d ∧ Dv H v d
  | _, _, _, _, .nil, e => by simp at e
  | _, _, 0, _, .cons a _, e => by
    simp at e
    subst e
    exact ⟨_, rfl, a⟩
  | _, _, i + 1, d, .cons _ r, e => by
    obtain ⟨v, h1, h2⟩ := dvs_get' (i := i) (v := d) r (by simpa using e)
    exact ⟨v, by simpa using h1, h2⟩
theorem dvs_drop {H : Hp} : ∀ {vs : List V} {ds : List PyData} (n : Nat), DvAll H vs ds → DvAll H (vs.drop n) (ds.drop n)
  | _, _, 0, h => h
  | _, _, _ + 1, .nil => .nil
  | _, _, n + 1, .cons _ r => dvs_drop n r
theorem dvs_take {H : Hp} : ∀ {vs : List V} {ds : List PyData} (n : Nat), DvAll H vs ds → DvAll H (vs.take n) (ds.take n)
  | _, _, 0, _ => .nil
  | _, _, _ + 1, .nil => .nil
  | _, _, n + 1, .cons a r => .cons a (dvs_take n r)
theorem dvs_set {H : Hp} : ∀ {vs : List V} {ds : List PyData} {v : V} {d : PyData} (i : Nat), DvAll H vs ds → Dv H v d → DvAll H (vs.set i v) (ds.set i d)
  | _, _, _, _, _, .nil, _ => .nil
  | _, _, _, _, 0, .cons _ r, h => .cons h r
  | _, _, _, _, i + 1, .cons a r, h => .cons a (dvs_set i r h)
theorem dvs_snoc {H : Hp} {vs : List V} {ds : List PyData} {v : V} {d : PyData} (h : DvAll H vs ds) (g : Dv H v d) : DvAll H (vs ++ [v]) (ds ++ [d]) := dvs_append h (.cons g .nil)
theorem dvs_nil {H : Hp} {vs : List V} (h : DvAll H vs []) : vs = [] := by cases h; rfl
theorem dvs_ints {H : Hp} : ∀ {vs : List V} {ns : List Int}, DvAll H vs (ns.map PyData.int) → vs = ns.map V.int
  | _, [], .nil => rfl
  | _, _ :: _, .cons a r => by
    cases a
    rw [dvs_ints r] <;> rfl
theorem dvs_strs {H : Hp} : ∀ {vs : List V} {ns : List Str}, DvAll H vs (ns.map PyData.str) → vs = ns.map V.str
  | _, [], .nil => rfl
  | _, _ :: _, .cons a r => by
    cases a
    rw [dvs_strs r] <;> rfl
theorem dvs_bools {H : Hp} : ∀ {vs : List V} {ns : List Bool}, DvAll H vs (ns.map PyData.bool) → vs = ns.map V.bl
  | _, [], .nil => rfl
  | _, _ :: _, .cons a r => by
    cases a
    rw [dvs_bools r] <;> rfl
section
variable {B : Bas} {X : Cx} {Γ : List Sl} {pos : Pos}
/-! ### a two-place operation -/
def Op2 (B : Bas) (r : R2) (d1 d2 : PyData) (k : PyData → Prop) : Prop := ∀ (Γ : List Sl) (Hs : Hp) (σ : L2.St) (H : Hp) (v1 v2 : V) (Q : VK), Sx B Hs σ H Γ → Dv Hs v1 d1 → Dv Hs v2 d2 →
  (∀ d v Hs' H', k d → Same Hs Hs' → Sx B Hs' σ H' Γ → Dv Hs' v d → Q v H') → r v1 v2 H Q
theorem ge_op {op : Operator} {r : R2} {a b : Expr} {φ : PyData → List Sl → Prop} (ho : OpR X (binaryOp op) r) (R : PyData → PyData → (PyData → Prop) → Prop) (sem : ∀ d1 d2 k, R d1 d2 k → Op2 B r d1 d2 k)
    (h : GE B X a Γ fun d1 Γ1 => GE B X b Γ1 fun d2 Γ2 => R d1 d2 fun d => φ d Γ2) : GE B X (.BinOp a op b pos) Γ φ := fun Hs σ H Q S g =>
  pe_of (pe_op ho pe_W pe_W) (h Hs σ H _ S fun d1 Γ1 v1 Hs1 H1 p s1 S1 q1 => p Hs1 σ H1 _ S1 fun d2 Γ2 v2 Hs2 H2 p2 s2 S2 q2 =>
    sem d1 d2 _ p2 Γ2 Hs2 σ H2 v1 v2 Q S2 (q1.mono s2) q2 fun d v Hs3 H3 kd s3 S3 q3 => g d Γ2 v Hs3 H3 kd (s1.trans (s2.trans s3)) S3 q3)
theorem or_op {f : Value → Value → Sem Value} {r r' : R2} (h : OpR X f r) (h' : OpR X f r') : OpR X f (fun x y H Q => r x y H Q ∨ r' x y H Q) := fun pins s σ H x y v u Q I rx ry q => q.elim (h pins s σ H x y v u Q I rx ry) (h' pins s σ H x y v u Q I rx ry)
def rCatR : R2 := fun x y H Q => ∃ l b xs zs, x = .ref l ∧ y = .ref b ∧ Rd H l (.lst xs) ∧ Rd H b (.lst zs) ∧ xs.length + zs.length ≤ sizeLine ∧ ∀ p, H p = none → Q (.ref p) (upd H p (.lst (xs ++ zs)))
theorem op_catR : OpR X (binaryOp .Add) rCatR := by
  intro pins s σ H x y v u Q I rx ry h
  obtain ⟨l, b, xs, zs, rfl, rfl, hH, hB, hz, q⟩ := h
  cases rx
  cases ry
  obtain ⟨z, its, n, r, e⟩ := hH.ok I.hok
  obtain ⟨z2, its2, n2, r2, e2⟩ := hB.ok I.hok
  have l1 := r.length
  have l2 := r2.length
  refine PySem.P.add_list e e2 ?_ (by rw [List.size_toArray, List.size_toArray]; omega)
  have ea : its.toArray ++ its2.toArray = (its ++ its2).toArray := by simp
  rw [ea]
  exact ⟨.ref _, _, I.lnew (t' := s.toks) (r.append r2) (by rw [List.length_append]; omega), rfl, q _ I.fresh⟩
def AddD (d1 d2 : PyData) (k : PyData → Prop) : Prop := match d1, d2 with
  | .int i, .int j => k (.int (i + j))
  | .str x, .str y => x.length + y.length ≤ sizeLine ∧ k (.str (x ++ y))
  | .tuple xs, .tuple ys => xs.length + ys.length ≤ sizeLine ∧ k (.tuple (xs ++ ys))
  | .list xs, .list ys => xs.length + ys.length ≤ sizeLine ∧ k (.list (xs ++ ys))
  | _, _ => False
def rAddA (K : PySem.W.Frag) : R2 := fun x y H Q => (rI0 fun i j => .int (i + j)) x y H Q ∨ ((∃ i j, x = .str i ∧ y = .str j ∧ i.length + j.length ≤ sizeLine ∧ Q (.str (i ++ j)) H) ∨ (rCatA K x y H Q ∨ rCatR x y H Q))
theorem op_addA : OpR X (binaryOp .Add) (rAddA X.K) := or_op op_add (or_op op_add_str (or_op op_catA op_catR))
theorem tup_new {Hs : Hp} {σ : L2.St} {H : Hp} (S : Sx B Hs σ H Γ) {vs : List V} {ds : List PyData} (h : DvAll Hs vs ds) {Q : VK} (q : ∀ v Hs' H', Same Hs Hs' → Sx B Hs' σ H' Γ → Dv Hs' v (.tuple ds) → Q v H') (p : Addr) (hp : H p = none) : Q (.ref p) (upd H p (.tup vs)) := by
  obtain ⟨k, U⟩ := S.new (o := .tup vs) hp
  exact q _ _ _ k U (.tup (.inl upd_same) (h.mono k))
theorem lst_new {Hs : Hp} {σ : L2.St} {H : Hp} (S : Sx B Hs σ H Γ) {vs : List V} {ds : List PyData} (h : DvAll Hs vs ds) {Q : VK} (q : ∀ v Hs' H', Same Hs Hs' → Sx B Hs' σ H' Γ → Dv Hs' v (.list ds) → Q v H') (p : Addr) (hp : H p = none) : Q (.ref p) (upd H p (.lst vs)) := by
  obtain ⟨k, U⟩ := S.new (o := .lst vs) hp
  exact q _ _ _ k U (.lst (.inl upd_same) (h.mono k))
theorem sem_add {K : PySem.W.Frag} (d1 d2 : PyData) (k : PyData → Prop) (h : AddD d1 d2 k) : Op2 B (rAddA K) d1 d2 k := by
  intro Γ Hs σ H v1 v2 Q S q1 q2 g
  cases q1 with
  | int i =>
    cases q2 with
    | int j => exact .inl ⟨i, j, rfl, rfl, g _ _ Hs H h (Same.refl _) S (.int _)⟩
    | _ => exact h.elim
  | str x =>
    cases q2 with
    | str y => exact .inr (.inl ⟨x, y, rfl, rfl, h.1, g _ _ Hs H h.2 (Same.refl _) S (.str _)⟩)
    | _ => exact h.elim
  | @tup a xs ds r1 a1 =>
    cases q2 with
    | @tup b ys es r2 a2 =>
      obtain ⟨hl, hk⟩ := h
      refine .inr (.inr (.inl ⟨a, b, xs, ys, rfl, rfl, rdT (rd_up S.sub r1), rdT (rd_up S.sub r2), by rw [a1.len, a2.len]; exact hl, fun e => ?_, fun _ e => ?_, fun _ _ p hp => ?_⟩))
      · subst e
        cases a1
        exact g _ _ Hs H hk (Same.refl _) S (.tup r2 a2)
      · subst e
        cases a2
        rw [List.append_nil] at hk
        exact g _ _ Hs H hk (Same.refl _) S (.tup r1 a1)
      · exact tup_new S (dvs_append a1 a2) (fun v Hs' H' s T q => g _ v Hs' H' hk s T q) p hp
    | _ => exact h.elim
  | @lst a xs ds r1 a1 =>
    cases q2 with
    | @lst b ys es r2 a2 =>
      obtain ⟨hl, hk⟩ := h
      exact .inr (.inr (.inr ⟨a, b, xs, ys, rfl, rfl, rd_up S.sub r1, rd_up S.sub r2, by rw [a1.len, a2.len]; exact hl, lst_new S (dvs_append a1 a2) fun v Hs' H' s T q => g _ v Hs' H' hk s T q⟩))
    | _ => exact h.elim
  | _ => exact h.elim
theorem ge_add {a b : Expr} {φ : PyData → List Sl → Prop} (h : GE B X a Γ fun d1 Γ1 => GE B X b Γ1 fun d2 Γ2 => AddD d1 d2 fun d => φ d Γ2) : GE B X (.BinOp a .Add b pos) Γ φ := ge_op op_addA AddD sem_add h
def IntD (C : Int → Int → Prop) (f : Int → Int → Int) (d1 d2 : PyData) (k : PyData → Prop) : Prop := match d1, d2 with
  | .int i, .int j => C i j ∧ k (.int (f i j))
  | _, _ => False
theorem sem_int {C : Int → Int → Prop} {f : Int → Int → Int} (d1 d2 : PyData) (k : PyData → Prop) (h : IntD C f d1 d2 k) : Op2 B (rI C fun i j => .int (f i j)) d1 d2 k := by
  intro Γ Hs σ H v1 v2 Q S q1 q2 g
  cases q1 with
  | int i =>
    cases q2 with
    | int j => exact ⟨i, j, rfl, rfl, h.1, g _ _ Hs H h.2 (Same.refl _) S (.int _)⟩
    | _ => exact h.elim
  | _ => exact h.elim
def Int0 (f : Int → Int → Int) (d1 d2 : PyData) (k : PyData → Prop) : Prop := match d1, d2 with
  | .int i, .int j => k (.int (f i j))
  | _, _ => False
theorem sem_int0 {f : Int → Int → Int} (d1 d2 : PyData) (k : PyData → Prop) (h : Int0 f d1 d2 k) : Op2 B (rI0 fun i j => .int (f i j)) d1 d2 k := by
  intro Γ Hs σ H v1 v2 Q S q1 q2 g
  cases q1 with
  | int i =>
    cases q2 with
    | int j => exact ⟨i, j, rfl, rfl, g _ _ Hs H h (Same.refl _) S (.int _)⟩
    | _ => exact h.elim
  | _ => exact h.elim
theorem ge_sub {a b : Expr} {φ : PyData → List Sl → Prop} (h : GE B X a Γ fun d1 Γ1 => GE B X b Γ1 fun d2 Γ2 => Int0 (· - ·) d1 d2 fun d => φ d Γ2) : GE B X (.BinOp a .Sub b pos) Γ φ := ge_op op_sub (Int0 (· - ·)) sem_int0 h
/-- small numbers (one below 2^64), or with fewer than a million bits together -/
def MulOk (i j : Int) : Prop := CMul i j ∨ CMulW i j
theorem op_mulA : OpR X (binaryOp .Mult) (rI MulOk fun i j => .int (i * j)) := fun pins s σ H x y v u Q I rx ry ⟨i, j, e1, e2, c, q⟩ => c.elim (fun c => op_mul pins s σ H x y v u Q I rx ry ⟨i, j, e1, e2, c, q⟩) fun c => op_mulW pins s σ H x y v u Q I rx ry ⟨i, j, e1, e2, c, q⟩
def rRepL (K : PySem.W.Frag) : R2 := fun x y H Q => (rI MulOk fun i j => .int (i * j)) x y H Q ∨ ((∃ (i : Str) (k : Int), x = .str i ∧ y = .int k ∧ i.length ≤ 16 ∧ -(2 ^ 63) ≤ k ∧ k ≤ 1048576 ∧ Q (.str (Txt.mul i k)) H) ∨ rRepT K x y H Q)
theorem op_mulD : OpR X (binaryOp .Mult) (rRepL X.K) := or_op op_mulA (or_op op_mul_str op_repT)
def MulD (d1 d2 : PyData) (k : PyData → Prop) : Prop := match d1, d2 with
  | .int i, .int j => MulOk i j ∧ k (.int (i * j))
  | .str x, .int j => (x.length ≤ 16 ∧ -(2 ^ 63) ≤ j ∧ j ≤ 1048576) ∧ k (.str (Txt.mul x j))
  | .tuple xs, .int j => (xs ≠ [] ∧ 2 ≤ j ∧ j ≤ 1000 ∧ xs.length ≤ 1000) ∧ k (.tuple (List.replicate j.toNat xs).flatten)
  | _, _ => False
theorem sem_mul {K : PySem.W.Frag} (d1 d2 : PyData) (k : PyData → Prop) (h : MulD d1 d2 k) : Op2 B (rRepL K) d1 d2 k := by
  intro Γ Hs σ H v1 v2 Q S q1 q2 g
  cases q1 with
  | int i =>
    cases q2 with
    | int j => exact .inl ⟨i, j, rfl, rfl, h.1, g _ _ Hs H h.2 (Same.refl _) S (.int _)⟩
    | _ => exact h.elim
  | str x =>
    cases q2 with
    | int j => exact .inr (.inl ⟨x, j, rfl, rfl, h.1.1, h.1.2.1, h.1.2.2, g _ _ Hs H h.2 (Same.refl _) S (.str _)⟩)
    | _ => exact h.elim
  | @tup a xs ds r1 a1 =>
    cases q2 with
    | int j =>
      obtain ⟨⟨h1, h2, h3, h4⟩, hk⟩ := h
      refine .inr (.inr ⟨a, j, xs, rfl, rfl, rdT (rd_up S.sub r1), fun e => h1 (by subst e; cases a1; rfl), h2, h3, by rw [a1.len]; exact h4, tup_new S (dvs_rep a1 _) fun v Hs' H' s T q => g _ v Hs' H' hk s T q⟩)
    | _ => exact h.elim
  | _ => exact h.elim
theorem ge_mul {a b : Expr} {φ : PyData → List Sl → Prop} (h : GE B X a Γ fun d1 Γ1 => GE B X b Γ1 fun d2 Γ2 => MulD d1 d2 fun d => φ d Γ2) : GE B X (.BinOp a .Mult b pos) Γ φ := ge_op op_mulD MulD sem_mul h
theorem ge_mod {a b : Expr} {φ : PyData → List Sl → Prop} (h : GE B X a Γ fun d1 Γ1 => GE B X b Γ1 fun d2 Γ2 => IntD (fun _ j => 0 < j) (fun i j => i % j) d1 d2 fun d => φ d Γ2) : GE B X (.BinOp a .Mod b pos) Γ φ := ge_op op_mod (IntD (fun _ j => 0 < j) fun i j => i % j) sem_int h
theorem ge_fdiv {a b : Expr} {φ : PyData → List Sl → Prop} (h : GE B X a Γ fun d1 Γ1 => GE B X b Γ1 fun d2 Γ2 => IntD CDivW (fun i j => i / j) d1 d2 fun d => φ d Γ2) : GE B X (.BinOp a .FloorDiv b pos) Γ φ := ge_op op_fdivW (IntD CDivW fun i j => i / j) sem_int h
theorem ge_pow {a b : Expr} {φ : PyData → List Sl → Prop} (h : GE B X a Γ fun d1 Γ1 => GE B X b Γ1 fun d2 Γ2 => IntD CPow (fun i j => i ^ j.toNat) d1 d2 fun d => φ d Γ2) : GE B X (.BinOp a .Pow b pos) Γ φ := ge_op op_pow (IntD CPow fun i j => i ^ j.toNat) sem_int h
end
end Px
/-! Comparisons, tests, places of sequences, lengths. -/
namespace Px
open PySem PySem.Spec PyProof.Rows L2 Tc
/-- what stands round a piece: room for calls, no repr runs, the modules' own dict is not touched -/
structure Cxt (X : Cx) (k : Nat) : Prop where
  room : Room k X.A
  gd : X.A.guards = some []
  sm : ∃ o, X.K.lookup sysModules = some o
theorem Cxt.mono {X : Cx} {j k : Nat} (c : Cxt X k) (h : j ≤ k) : Cxt X j := ⟨c.room.mono h, c.gd, c.sm⟩
section
variable {B : Bas} {X : Cx} {Γ : List Sl} {pos : Pos}
/-! ### comparisons -/
def Cmp2 (r : R2) (d1 d2 : PyData) (k : Bool → Prop) : Prop := ∀ (H : Hp) (v1 v2 : V) (Q : VK), Dv H v1 d1 → Dv H v2 d2 → (∀ b, k b → Q (.bl b) H) → r v1 v2 H Q
theorem ge_cmp {op : CmpOp} {r : R2} {a b : Expr} {φ : PyData → List Sl → Prop} (ho : OpR X (compareOp op) r) (R : PyData → PyData → (Bool → Prop) → Prop) (sem : ∀ d1 d2 k, R d1 d2 k → Cmp2 r d1 d2 k) (hm : behindInMarks op b = false)
    (h : GE B X a Γ fun d1 Γ1 => GB B X b Γ1 fun d2 Γ2 => R d1 d2 fun c => φ (.bool c) Γ2) : GE B X (.Compare a [op] [b] pos) Γ φ := fun Hs σ H Q S g =>
  pe_of (pe_cmpR ho pe_W pe_W hm) (h Hs σ H _ S fun d1 Γ1 v1 Hs1 H1 p s1 S1 q1 => p Hs1 σ H1 _ S1 fun d2 Γ2 v2 Hs2 H2 p2 s2 S2 q2 =>
    sem d1 d2 _ p2 H2 v1 v2 Q ((q1.mono s2).mono S2.sub) q2 fun c kc => g _ Γ2 _ Hs2 H2 kc (s1.trans s2) S2 (.bl c))
theorem gt_cmp {op : CmpOp} {r : R2} {a b : Expr} {φ : Bool → List Sl → Prop} (ho : OpR X (compareOp op) r) (R : PyData → PyData → (Bool → Prop) → Prop) (sem : ∀ d1 d2 k, R d1 d2 k → Cmp2 r d1 d2 k) (hm : behindInMarks op b = false)
    (h : GE B X a Γ fun d1 Γ1 => GB B X b Γ1 fun d2 Γ2 => R d1 d2 fun c => φ c Γ2) : GT B X (.Compare a [op] [b] pos) Γ φ := fun Hs σ H Q S g =>
  pt_of (pt_cmpR ho pe_W pe_W hm) (h Hs σ H _ S fun d1 Γ1 v1 Hs1 H1 p s1 S1 q1 => p Hs1 σ H1 _ S1 fun d2 Γ2 v2 Hs2 H2 p2 s2 S2 q2 =>
    sem d1 d2 _ p2 H2 v1 v2 _ ((q1.mono s2).mono S2.sub) q2 fun c kc => ⟨c, rfl, g _ Γ2 Hs2 H2 kc (s1.trans s2) S2⟩)
/-- ==: two of the plain kinds, or two that are plain all through -/
def plain2 : PyData → PyData → Bool
  | .none, .none => true | .none, .int _ => true | .int _, .none => true | .none, .bool _ => true | .bool _, .none => true | .none, .str _ => true | .str _, .none => true
  | .int _, .int _ => true | .bool _, .bool _ => true | .str _, .str _ => true
  | .int _, .str _ => true | .str _, .int _ => true | .bool _, .str _ => true | .str _, .bool _ => true
  | _, _ => false
def rEqA : R2 := fun x y H Q => rEq x y H Q ∨ ∃ d e, Dv H x d ∧ Dv H y e ∧ SeqAt.shaped d = true ∧ SeqAt.shaped e = true ∧ Q (.bl (PyData.eqv d e)) H
def rNeA : R2 := fun x y H Q => rNe x y H Q ∨ ∃ d e, Dv H x d ∧ Dv H y e ∧ SeqAt.shaped d = true ∧ SeqAt.shaped e = true ∧ Q (.bl (!PyData.eqv d e)) H
theorem sm_none {pins : List (Addr × Obj)} {σ : L2.St} {H : Hp} {s : Shared} (hsm : ∃ o, X.K.lookup sysModules = some o) (I : Inv X pins σ H s) : H sysModules = none := by
  obtain ⟨o, ho⟩ := hsm
  exact (I.bs _ _ (I.ok.mod.kin _ _ ho)).2
theorem shaped_nd {d : PyData} (h : SeqAt.shaped d = true) : d.hasDict = false := PyData.hasDict_of_canLay d (SeqAt.canLay_of_shaped h)
theorem op_eqA {k : Nat} (c : Cxt X k) : OpR X (compareOp .Eq) rEqA := by
  intro pins s σ H x y v u Q I rx ry h
  rcases h with h | ⟨d, e, hd, he, sd, se, q⟩
  · exact op_eq pins s σ H x y v u Q I rx ry h
  · obtain ⟨as, r1, _⟩ := hd.reads clean_noDict I (sm_none c.sm I) (shaped_nd sd) v rx
    obtain ⟨bs, r2, _⟩ := he.reads clean_noDict I (sm_none c.sm I) (shaped_nd se) u ry
    exact SeqAt.compareEq_shaped r1 r2 sd se c.room.units ⟨.bl _, H, I, rfl, q⟩
theorem op_neA {k : Nat} (c : Cxt X k) : OpR X (compareOp .NotEq) rNeA := by
  intro pins s σ H x y v u Q I rx ry h
  rcases h with h | ⟨d, e, hd, he, sd, se, q⟩
  · exact op_ne pins s σ H x y v u Q I rx ry h
  · obtain ⟨as, r1, _⟩ := hd.reads clean_noDict I (sm_none c.sm I) (shaped_nd sd) v rx
    obtain ⟨bs, r2, _⟩ := he.reads clean_noDict I (sm_none c.sm I) (shaped_nd se) u ry
    exact SeqAt.compareNe_shaped r1 r2 sd se c.room.units ⟨.bl _, H, I, rfl, q⟩
def EqD (d1 d2 : PyData) (k : Bool → Prop) : Prop := (plain2 d1 d2 = true ∨ (SeqAt.shaped d1 = true ∧ SeqAt.shaped d2 = true)) ∧ k (PyData.eqv d1 d2)
def NeD (d1 d2 : PyData) (k : Bool → Prop) : Prop := (plain2 d1 d2 = true ∨ (SeqAt.shaped d1 = true ∧ SeqAt.shaped d2 = true)) ∧ k (!PyData.eqv d1 d2)
theorem plain_dec {H : Hp} {v1 v2 : V} {d1 d2 : PyData} (h : plain2 d1 d2 = true) (q1 : Dv H v1 d1) (q2 : Dv H v2 d2) : scal v1 v2 = true ∧ decide (v1 = v2) = PyData.eqv d1 d2 := by
  cases q1 <;> cases q2 <;> first
    | exact Bool.noConfusion h
    | exact ⟨rfl, rfl⟩
    | exact ⟨rfl, dec_int⟩
    | exact ⟨rfl, dec_bl⟩
    | exact ⟨rfl, dec_str⟩
    | exact ⟨rfl, decide_eq_false fun z => nomatch z⟩
theorem sem_eq (d1 d2 : PyData) (k : Bool → Prop) (h : EqD d1 d2 k) : Cmp2 rEqA d1 d2 k := fun H v1 v2 Q q1 q2 g => by
  obtain ⟨h | ⟨h1, h2⟩, hk⟩ := h
  · obtain ⟨e1, e2⟩ := plain_dec h q1 q2
    exact .inl ⟨e1, by rw [e2]; exact g _ hk⟩
  · exact .inr ⟨d1, d2, q1, q2, h1, h2, g _ hk⟩
theorem sem_ne (d1 d2 : PyData) (k : Bool → Prop) (h : NeD d1 d2 k) : Cmp2 rNeA d1 d2 k := fun H v1 v2 Q q1 q2 g => by
  obtain ⟨h | ⟨h1, h2⟩, hk⟩ := h
  · obtain ⟨e1, e2⟩ := plain_dec h q1 q2
    exact .inl ⟨e1, by rw [e2]; exact g _ hk⟩
  · exact .inr ⟨d1, d2, q1, q2, h1, h2, g _ hk⟩
def OrdD (p : Int → Int → Bool) (d1 d2 : PyData) (k : Bool → Prop) : Prop := match d1, d2 with
  | .int i, .int j => k (p i j)
  | _, _ => False
theorem sem_ord {p : Int → Int → Bool} (d1 d2 : PyData) (k : Bool → Prop) (h : OrdD p d1 d2 k) : Cmp2 (rI0 fun i j => .bl (p i j)) d1 d2 k := fun H v1 v2 Q q1 q2 g => by
  cases q1 with
  | int i =>
    cases q2 with
    | int j => exact ⟨i, j, rfl, rfl, g _ h⟩
    | _ => exact h.elim
  | _ => exact h.elim
abbrev LtD := OrdD fun i j => decide (i < j)
abbrev LeD := OrdD fun i j => decide (i ≤ j)
abbrev GtD := OrdD fun i j => decide (j < i)
abbrev GeD := OrdD fun i j => decide (j ≤ i)
def isN : PyData → Bool
  | .none => true
  | _ => false
def IsND (d1 d2 : PyData) (k : Bool → Prop) : Prop := match d2 with
  | .none => k (isN d1)
  | _ => False
def NotND (d1 d2 : PyData) (k : Bool → Prop) : Prop := match d2 with
  | .none => k (!isN d1)
  | _ => False
theorem isN_dec {H : Hp} {v : V} {d : PyData} (q : Dv H v d) : decide (v = .non) = isN d := by
  cases q <;> first | rfl | exact decide_eq_false fun z => nomatch z
theorem sem_isN (d1 d2 : PyData) (k : Bool → Prop) (h : IsND d1 d2 k) : Cmp2 (fun x y H Q => y = .non ∧ Q (.bl (decide (x = .non))) H) d1 d2 k := fun H v1 v2 Q q1 q2 g => by
  cases q2 with
  | non => exact ⟨rfl, by rw [isN_dec q1]; exact g _ h⟩
  | _ => exact h.elim
theorem sem_notN (d1 d2 : PyData) (k : Bool → Prop) (h : NotND d1 d2 k) : Cmp2 (fun x y H Q => y = .non ∧ Q (.bl (!decide (x = .non))) H) d1 d2 k := fun H v1 v2 Q q1 q2 g => by
  cases q2 with
  | non => exact ⟨rfl, by rw [isN_dec q1]; exact g _ h⟩
  | _ => exact h.elim
section
variable {a b : Expr} {φ : PyData → List Sl → Prop} {ψ : Bool → List Sl → Prop} {k : Nat}
theorem ge_eq (c : Cxt X k) (h : GE B X a Γ fun d1 Γ1 => GB B X b Γ1 fun d2 Γ2 => EqD d1 d2 fun c => φ (.bool c) Γ2) : GE B X (.Compare a [.Eq] [b] pos) Γ φ := ge_cmp (op_eqA c) EqD sem_eq (nomark _) h
theorem ge_ge (h : GE B X a Γ fun d1 Γ1 => GB B X b Γ1 fun d2 Γ2 => GeD d1 d2 fun c => φ (.bool c) Γ2) : GE B X (.Compare a [.GtE] [b] pos) Γ φ := ge_cmp op_ge GeD sem_ord (nomark _) h
theorem gt_eq (c : Cxt X k) (h : GE B X a Γ fun d1 Γ1 => GB B X b Γ1 fun d2 Γ2 => EqD d1 d2 fun c => ψ c Γ2) : GT B X (.Compare a [.Eq] [b] pos) Γ ψ := gt_cmp (op_eqA c) EqD sem_eq (nomark _) h
theorem gt_ne (c : Cxt X k) (h : GE B X a Γ fun d1 Γ1 => GB B X b Γ1 fun d2 Γ2 => NeD d1 d2 fun c => ψ c Γ2) : GT B X (.Compare a [.NotEq] [b] pos) Γ ψ := gt_cmp (op_neA c) NeD sem_ne (nomark _) h
theorem gt_lt (h : GE B X a Γ fun d1 Γ1 => GB B X b Γ1 fun d2 Γ2 => LtD d1 d2 fun c => ψ c Γ2) : GT B X (.Compare a [.Lt] [b] pos) Γ ψ := gt_cmp op_lt LtD sem_ord (nomark _) h
theorem gt_gt (h : GE B X a Γ fun d1 Γ1 => GB B X b Γ1 fun d2 Γ2 => GtD d1 d2 fun c => ψ c Γ2) : GT B X (.Compare a [.Gt] [b] pos) Γ ψ := gt_cmp op_gt GtD sem_ord (nomark _) h
theorem gt_isN (h : GE B X a Γ fun d1 Γ1 => GB B X b Γ1 fun d2 Γ2 => IsND d1 d2 fun c => ψ c Γ2) : GT B X (.Compare a [.Is] [b] pos) Γ ψ := gt_cmp op_isN IsND sem_isN (nomark _) h
theorem gt_notN (h : GE B X a Γ fun d1 Γ1 => GB B X b Γ1 fun d2 Γ2 => NotND d1 d2 fun c => ψ c Γ2) : GT B X (.Compare a [.IsNot] [b] pos) Γ ψ := gt_cmp op_notN NotND sem_notN (nomark _) h
end
theorem ge_chain {op op' : CmpOp} {r r' : R2} {a b c : Expr} {φ : PyData → List Sl → Prop} (ho : OpR X (compareOp op) r) (ho' : OpR X (compareOp op') r') (R R' : PyData → PyData → (Bool → Prop) → Prop) (sem : ∀ d1 d2 k, R d1 d2 k → Cmp2 r d1 d2 k) (sem' : ∀ d1 d2 k, R' d1 d2 k → Cmp2 r' d1 d2 k)
    (h : GE B X a Γ fun d1 Γ1 => GE B X b Γ1 fun d2 Γ2 => R d1 d2 fun t => if t = true then GE B X c Γ2 fun d3 Γ3 => R' d2 d3 fun u => φ (.bool u) Γ3 else φ (.bool false) Γ2)
    (hm : lastMarks [op, op'] [b, c] = false := by with_unfolding_all rfl) : GE B X (.Compare a [op, op'] [b, c] pos) Γ φ := fun Hs σ H Q S g =>
  pe_of (L2.pe_chain ho ho' pe_W pe_W pe_W hm) (h Hs σ H _ S fun d1 Γ1 v1 Hs1 H1 p s1 S1 q1 => p Hs1 σ H1 _ S1 fun d2 Γ2 v2 Hs2 H2 p2 s2 S2 q2 =>
    sem d1 d2 _ p2 H2 v1 v2 _ ((q1.mono s2).mono S2.sub) (q2.mono S2.sub) fun t kt => ⟨t, rfl, by
      cases t with
      | true =>
        have kt : GE B X c Γ2 fun d3 Γ3 => R' d2 d3 fun u => φ (.bool u) Γ3 := kt
        exact iteT (kt Hs2 σ H2 _ S2 fun d3 Γ3 v3 Hs3 H3 p3 s3 S3 q3 => sem' d2 d3 _ p3 H3 v2 v3 _ ((q2.mono s3).mono S3.sub) (q3.mono S3.sub) fun u ku => g _ Γ3 _ Hs3 H3 ku (s1.trans (s2.trans s3)) S3 (.bl u))
      | false => exact iteF (g _ Γ2 _ Hs2 H2 kt (s1.trans s2) S2 (.bl false))⟩)
/-! ### not, and, or -/
section
variable {a b c : Expr} {rest : List Expr} {φ : Bool → List Sl → Prop} {ψ : PyData → List Sl → Prop}
theorem gt_not (h : GT B X a Γ fun t Γ1 => φ (!t) Γ1) : GT B X (.UnaryOp .Not a pos) Γ φ := fun Hs σ H Q S g =>
  pt_of (pt_not pt_W) (h Hs σ H (fun t H' => Q (!t) H') S fun t Γ1 Hs1 H1 p s1 S1 => g _ Γ1 Hs1 H1 p s1 S1)
theorem gt_bool {op : BoolOp} {es : List Expr} (h : GW B X (.BoolOp op es pos) Γ φ) : GT B X (.BoolOp op es pos) Γ φ := fun Hs σ H Q S g => pt_of pw_W.pt (h Hs σ H Q S g)
theorem gw_or1 (h : GT B X a Γ φ) : GW B X (.BoolOp .Or [a] pos) Γ φ := fun Hs σ H Q S g => pw_of (pw_or1 pt_W) (h Hs σ H Q S g)
theorem gw_and1 (h : GT B X a Γ φ) : GW B X (.BoolOp .And [a] pos) Γ φ := fun Hs σ H Q S g => pw_of (pw_and1 pt_W) (h Hs σ H Q S g)
theorem gw_or (h : GT B X a Γ fun t Γ1 => if t = true then φ true Γ1 else GW B X (.BoolOp .Or (b :: rest) pos) Γ1 φ) : GW B X (.BoolOp .Or (a :: b :: rest) pos) Γ φ := fun Hs σ H Q S g =>
  pw_of (pw_or pt_W pw_W) (h Hs σ H _ S fun t Γ1 Hs1 H1 p s1 S1 => by
    cases t with
    | true => exact iteT (g true Γ1 Hs1 H1 p s1 S1)
    | false =>
      have p : GW B X (.BoolOp .Or (b :: rest) pos) Γ1 φ := p
      exact iteF (p Hs1 σ H1 Q S1 fun u Γ2 Hs2 H2 q s2 S2 => g u Γ2 Hs2 H2 q (s1.trans s2) S2))
theorem gw_and (h : GT B X a Γ fun t Γ1 => if t = true then GW B X (.BoolOp .And (b :: rest) pos) Γ1 φ else φ false Γ1) : GW B X (.BoolOp .And (a :: b :: rest) pos) Γ φ := fun Hs σ H Q S g =>
  pw_of (pw_and pt_W pw_W) (h Hs σ H _ S fun t Γ1 Hs1 H1 p s1 S1 => by
    cases t with
    | false => exact iteF (g false Γ1 Hs1 H1 p s1 S1)
    | true =>
      have p : GW B X (.BoolOp .And (b :: rest) pos) Γ1 φ := p
      exact iteT (p Hs1 σ H1 Q S1 fun u Γ2 Hs2 H2 q s2 S2 => g u Γ2 Hs2 H2 q (s1.trans s2) S2))
theorem ge_not (h : GE B X a Γ fun d Γ1 => ∃ t, d = .bool t ∧ ψ (.bool (!t)) Γ1) : GE B X (.UnaryOp .Not a pos) Γ ψ := fun Hs σ H Q S g =>
  pe_of (pe_not pe_W) (h Hs σ H _ S fun d Γ1 v Hs1 H1 ⟨t, e, p⟩ s1 S1 q => by
    subst e
    cases q
    exact ⟨t, rfl, g _ Γ1 _ Hs1 H1 p s1 S1 (.bl _)⟩)
theorem ge_one {op : BoolOp} (h : GE B X a Γ ψ) : GE B X (.BoolOp op [a] pos) Γ ψ := fun Hs σ H Q S g => pe_of (pe_one pe_W) (h Hs σ H Q S g)
theorem ge_and (h : GE B X a Γ fun d Γ1 => ∃ t, d = .bool t ∧ if t = true then GE B X (.BoolOp .And (b :: rest) pos) Γ1 ψ else ψ (.bool false) Γ1) : GE B X (.BoolOp .And (a :: b :: rest) pos) Γ ψ := fun Hs σ H Q S g =>
  pe_of (pe_and pe_W pe_W) (h Hs σ H _ S fun d Γ1 v Hs1 H1 ⟨t, e, p⟩ s1 S1 q => by
    subst e
    cases q
    refine ⟨t, rfl, ?_⟩
    cases t with
    | false => exact iteF (g _ Γ1 _ Hs1 H1 p s1 S1 (.bl _))
    | true =>
      have p : GE B X (.BoolOp .And (b :: rest) pos) Γ1 ψ := p
      exact iteT (p Hs1 σ H1 Q S1 fun u Γ2 w Hs2 H2 q s2 S2 r => g u Γ2 w Hs2 H2 q (s1.trans s2) S2 r))
theorem ge_or (h : GE B X a Γ fun d Γ1 => ∃ t, d = .bool t ∧ if t = true then ψ (.bool true) Γ1 else GE B X (.BoolOp .Or (b :: rest) pos) Γ1 ψ) : GE B X (.BoolOp .Or (a :: b :: rest) pos) Γ ψ := fun Hs σ H Q S g =>
  pe_of (pe_or pe_W pe_W) (h Hs σ H _ S fun d Γ1 v Hs1 H1 ⟨t, e, p⟩ s1 S1 q => by
    subst e
    cases q
    refine ⟨t, rfl, ?_⟩
    cases t with
    | true => exact iteT (g _ Γ1 _ Hs1 H1 p s1 S1 (.bl _))
    | false =>
      have p : GE B X (.BoolOp .Or (b :: rest) pos) Γ1 ψ := p
      exact iteF (p Hs1 σ H1 Q S1 fun u Γ2 w Hs2 H2 q s2 S2 r => g u Γ2 w Hs2 H2 q (s1.trans s2) S2 r))
theorem ge_if (h : GT B X c Γ fun t Γ1 => if t = true then GE B X a Γ1 ψ else GE B X b Γ1 ψ) : GE B X (.IfExp c a b pos) Γ ψ := fun Hs σ H Q S g =>
  pe_of (pe_ifExp pt_W pe_W pe_W) (h Hs σ H _ S fun t Γ1 Hs1 H1 p s1 S1 => by
    cases t with
    | true =>
      have p : GE B X a Γ1 ψ := p
      exact iteT (p Hs1 σ H1 Q S1 fun u Γ2 w Hs2 H2 q s2 S2 r => g u Γ2 w Hs2 H2 q (s1.trans s2) S2 r)
    | false =>
      have p : GE B X b Γ1 ψ := p
      exact iteF (p Hs1 σ H1 Q S1 fun u Γ2 w Hs2 H2 q s2 S2 r => g u Γ2 w Hs2 H2 q (s1.trans s2) S2 r))
end
/-! ### places, parts -/
def atD (ds : List PyData) (i : Int) : Option PyData := (ixN ds.length i).bind fun j => ds[j]?
theorem at_dvs {H : Hp} {vs : List V} {ds : List PyData} {i : Int} {d : PyData} (h : DvAll H vs ds) (e : atD ds i = some d) : ∃ v, atI vs i = some v ∧ Dv H v d := by
  unfold atD at e
  unfold atI
  rw [h.len]
  cases q : ixN ds.length i with
  | none => rw [q] at e; cases e
  | some j =>
    rw [q] at e
    exact dvs_get h e
def IxD (d1 d2 : PyData) (k : PyData → Prop) : Prop := match d1, d2 with
  | .list ds, .int i => ∃ x, atD ds i = some x ∧ k x
  | .tuple ds, .int i => ∃ x, atD ds i = some x ∧ k x
  | .str z, .int i => z.length ≤ sizeLine ∧ ∃ c, atI z.cps.toList i = some c ∧ k (.str ⟨#[c]⟩)
  | _, _ => False
theorem ge_ix {a b : Expr} {φ : PyData → List Sl → Prop} (hs : PlainIx b) (h : GE B X a Γ fun d1 Γ1 => GE B X b Γ1 fun d2 Γ2 => IxD d1 d2 fun d => φ d Γ2) : GE B X (.Subscript a b pos) Γ φ := fun Hs σ H Q S g =>
  pe_of (pe_ix ix_seq pe_W pe_W hs) (h Hs σ H _ S fun d1 Γ1 v1 Hs1 H1 p s1 S1 q1 => p Hs1 σ H1 _ S1 fun d2 Γ2 v2 Hs2 H2 p2 s2 S2 q2 => by
    have q1 := q1.mono s2
    cases q2 with
    | int i =>
      cases q1 with
      | lst r a =>
        obtain ⟨x, e, kx⟩ := p2
        obtain ⟨v, ev, dv⟩ := at_dvs a e
        exact .inl ⟨_, _, i, v, rfl, rfl, rdL (rd_up S2.sub r), ev, g x Γ2 v Hs2 H2 kx (s1.trans s2) S2 dv⟩
      | tup r a =>
        obtain ⟨x, e, kx⟩ := p2
        obtain ⟨v, ev, dv⟩ := at_dvs a e
        exact .inr (.inl ⟨_, _, i, v, rfl, rfl, rdT (rd_up S2.sub r), ev, g x Γ2 v Hs2 H2 kx (s1.trans s2) S2 dv⟩)
      | str z =>
        obtain ⟨hz, c, e, kx⟩ := p2
        exact .inr (.inr ⟨z, i, c, rfl, rfl, hz, e, g _ Γ2 _ Hs2 H2 kx (s1.trans s2) S2 (.str _)⟩)
      | _ => exact p2.elim
    | _ => cases q1 <;> exact p2.elim)
/-- of a list of one's own -/
theorem ge_ixO (i : Nat) {x : Str} {p0 : Pos} {b : Expr} {ad : Addr} {ds : List PyData} {φ : PyData → List Sl → Prop} (hN : X.N[i]? = some x) (hΓ : Γ[i]? = some (.own ad ds)) (hv : Vis X.env.scope x) (hs : PlainIx b) (h : GE B X b Γ fun d2 Γ2 => ∃ es, Γ2[i]? = some (.own ad es) ∧ IxD (.list es) d2 fun d => φ d Γ2)
    (hd : (x == ("__debug__" : Str)) = false := by decide) (hcd : (x == ("__classdict__" : Str)) = false := by decide) : GE B X (.Subscript (.Name x p0) b pos) Γ φ := fun Hs σ H Q S g => by
  obtain ⟨e, _⟩ := S.lst hΓ
  refine pe_of (pe_ix ix_list (pe_var hN hv hd hcd) pe_W hs) ⟨_, e, h Hs σ H _ S fun d2 Γ2 v2 Hs2 H2 ⟨es, hΓ2, p2⟩ s2 S2 q2 => ?_⟩
  obtain ⟨_, _, _, vs, hv2, dv⟩ := S2.lst hΓ2
  cases q2 with
  | int j =>
    obtain ⟨x, ex, kx⟩ := p2
    obtain ⟨v, ev, dx⟩ := at_dvs dv ex
    exact ⟨ad, vs, j, v, rfl, rfl, .inl (.inl hv2), ev, g x Γ2 v Hs2 H2 kx s2 S2 dx⟩
  | _ => exact p2.elim
/-! ### length -/
def LenD (d : PyData) (k : Int → Prop) : Prop := match d with
  | .list ds => k ds.length
  | .tuple ds => k ds.length
  | .str z => z.length ≤ sizeLine ∧ k z.length
  | _ => False
theorem ge_len {x : Str} {p : Pos} {a : Expr} {φ : PyData → List Sl → Prop} (hx : x = "len") (hg : Gl X x) (hm : X.mg x = none) (h : GB B X a Γ fun d Γ1 => LenD d fun n => φ (.int n) Γ1)
    (he : starEach [a] X.env = (false, eval a X.env) :: starEach [] X.env := by rfl) : GE B X (.Call (.Name x p) [a] [] pos) Γ φ := by
  subst hx
  intro Hs σ H Q S g
  refine pe_of (pe_callB call_len hg hm (by decide +kernel) (pa_cons pe_W pa_nil he) (he := he)) (show teW X a σ H _ from h Hs σ H _ S fun d Γ1 v Hs1 H1 p s1 S1 q => ?_)
  show ∃ x n, [v] = [x] ∧ _
  cases q with
  | lst r a => exact ⟨_, _, rfl, .inl ⟨_, rdL r, rfl⟩, by rw [a.len]; exact g _ Γ1 _ Hs1 H1 p s1 S1 (.int _)⟩
  | tup r a => exact ⟨_, _, rfl, .inr ⟨_, rdT r, rfl⟩, by rw [a.len]; exact g _ Γ1 _ Hs1 H1 p s1 S1 (.int _)⟩
  | str z => exact ⟨_, _, rfl, ⟨p.1, rfl⟩, g _ Γ1 _ Hs1 H1 p.2 s1 S1 (.int _)⟩
  | _ => exact p.elim
end
end Px
/-! Statements, and defs. -/
namespace Px
open PySem PySem.Spec PyProof.Rows L2 Tc
/-- the field that an error of one's own keeps its value in, by its class -/
class Fld where
  f : Addr → Str
variable [Fld]
/-- what is wanted behind a statement, of the data -/
structure DE where
  nx : List Sl → Prop
  rt : PyData → List Sl → Prop
  bk : List Sl → Prop := fun _ => False
  ct : List Sl → Prop := fun _ => False
structure Real (B : Bas) (D : Ends) (E : DE) (H0 : Hp) : Prop where
  nx : ∀ Γ Hs σ H, E.nx Γ → Same H0 Hs → Sx B Hs σ H Γ → D.nx σ H
  rt : ∀ d Γ v Hs σ H, E.rt d Γ → Same H0 Hs → Sx B Hs σ H Γ → Dv Hs v d → D.rt v H
  bk : ∀ Γ Hs σ H, E.bk Γ → Same H0 Hs → Sx B Hs σ H Γ → D.bk σ H
  ct : ∀ Γ Hs σ H, E.ct Γ → Same H0 Hs → Sx B Hs σ H Γ → D.ct σ H
theorem Real.up {B : Bas} {D : Ends} {E : DE} {H0 H1 : Hp} (R : Real B D E H0) (s : Same H0 H1) : Real B D E H1 := ⟨fun Γ Hs σ H p k S => R.nx Γ Hs σ H p (s.trans k) S, fun d Γ v Hs σ H p k S q => R.rt d Γ v Hs σ H p (s.trans k) S q, fun Γ Hs σ H p k S => R.bk Γ Hs σ H p (s.trans k) S, fun Γ Hs σ H p k S => R.ct Γ Hs σ H p (s.trans k) S⟩
/-- a def's body -/
structure Bod (X : Cx) (k : Nat) : Prop extends Cxt X k where
  nd : X.N.Nodup
  calm : X.calm = true
  po : PassesOwn (model X.prog X.w) X.A X.env X.xe
/-- the dict of an exception: none, if its class keeps no value -/
def ddOk (C : Addr) (H : Hp) : Option Addr → Prop
  | some dd => Fld.f C ≠ "" ∧ H dd = none
  | none => Fld.f C = ""
def ddH (C : Addr) (v : V) (H : Hp) : Option Addr → Hp
  | some dd => upd H dd (.xd [(Fld.f C, v)])
  | none => H
/-- what an error of one's own may find: its class, its value -/
def Exc (B : Bas) (X : Cx) (ψ : Addr → PyData → List Sl → Prop) : Prop := ∃ W : WX, Takes X W ∧ ∀ C d Γ v Hs σ H, ψ C d Γ → Sx B Hs σ H Γ → Dv Hs v d → ∀ dd, ddOk C H dd → W (.ref C) dd σ (ddH C v H dd)
theorem Exc.none {B : Bas} {X : Cx} : Exc B X (fun _ _ _ => False) := ⟨fun _ _ _ _ => False, takes0, fun _ _ _ _ _ _ _ h => h.elim⟩
theorem Exc.imp {B : Bas} {X : Cx} {ψ χ : Addr → PyData → List Sl → Prop} (h : Exc B X ψ) (i : ∀ C d Γ, χ C d Γ → ψ C d Γ) : Exc B X χ := by
  obtain ⟨W, t, h⟩ := h
  exact ⟨W, t, fun C d Γ v Hs σ H x => h C d Γ v Hs σ H (i C d Γ x)⟩
section
variable (B : Bas) (X : Cx)
def G1 (st : Stmt) (Γ : List Sl) (E : DE) : Prop := ∀ (D : Ends) (Hs : Hp) (σ : L2.St) (H : Hp), Real B D E Hs → Sx B Hs σ H Γ → tsW X st D σ H
def Gs (sts : List Stmt) (Γ : List Sl) (E : DE) : Prop := ∀ (D : Ends) (Hs : Hp) (σ : L2.St) (H : Hp), Real B D E Hs → Sx B Hs σ H Γ → tssW X sts D σ H
end
section
variable {B : Bas} {X : Cx} {Γ : List Sl} {E : DE} {pos : Pos} {k : Nat}
theorem gs_nil (h : E.nx Γ) : Gs B X [] Γ E := fun D Hs σ H R S => pss_of pss_nil (R.nx Γ Hs σ H h (Same.refl _) S)
theorem gs_cons {st : Stmt} {rest : List Stmt} (h : G1 B X st Γ { E with nx := fun Γ1 => Gs B X rest Γ1 E }) : Gs B X (st :: rest) Γ E := fun D Hs σ H R S =>
  pss_of (pss_cons ps_W pss_W) (h { D with nx := tssW X rest D } Hs σ H ⟨fun Γ1 Hs1 σ1 H1 p s S1 => p D Hs1 σ1 H1 (R.up s) S1, R.rt, R.bk, R.ct⟩ S)
/-- with a word between -/
theorem gs_mid {st : Stmt} {rest : List Stmt} (M : List Sl → Prop) (h : G1 B X st Γ { E with nx := M }) (k : ∀ Γ1, M Γ1 → Gs B X rest Γ1 E) : Gs B X (st :: rest) Γ E := fun D Hs σ H R S =>
  pss_of (pss_cons ps_W pss_W) (h { D with nx := tssW X rest D } Hs σ H ⟨fun Γ1 Hs1 σ1 H1 p s S1 => k Γ1 p D Hs1 σ1 H1 (R.up s) S1, R.rt, R.bk, R.ct⟩ S)
theorem g1_expr {e : Expr} (h : GE B X e Γ fun _ Γ1 => E.nx Γ1) (hs : swapsWith e none pos.line X.env = pure false := by rfl) : G1 B X (.Expr e pos) Γ E := fun D Hs σ H R S =>
  ps_of (ps_expr pe_W hs) (h Hs σ H _ S fun d Γ1 v Hs1 H1 p s S1 _ => R.nx Γ1 Hs1 σ H1 p s S1)
theorem g1_ret {e : Expr} (h : GE B X e Γ fun d Γ1 => E.rt d Γ1) : G1 B X (.Return (some e) pos) Γ E := fun D Hs σ H R S =>
  ps_of (ps_ret pe_W) (h Hs σ H _ S fun d Γ1 v Hs1 H1 p s S1 q => R.rt d Γ1 v Hs1 σ H1 p s S1 q)
theorem g1_if {c : Expr} {a b : List Stmt} (h : GT B X c Γ fun t Γ1 => if t = true then Gs B X a Γ1 E else Gs B X b Γ1 E) : G1 B X (.If c a b pos) Γ E := fun D Hs σ H R S =>
  ps_of (ps_if pt_W pss_W pss_W) (h Hs σ H _ S fun t Γ1 Hs1 H1 p s S1 => by
    cases t with
    | true =>
      have p : Gs B X a Γ1 E := p
      exact iteT (p D Hs1 σ H1 (R.up s) S1)
    | false =>
      have p : Gs B X b Γ1 E := p
      exact iteF (p D Hs1 σ H1 (R.up s) S1))
theorem g1_set (c : Bod X k) (i : Nat) {x : Str} {e : Expr} {pos' : Pos} (hi : X.N[i]? = some x) (hx : Loc X.env.scope x) (h : GE B X e Γ fun d Γ1 => i < Γ1.length ∧ E.nx (Γ1.set i (.d d)))
    (hs : swapsWith e (some (.Name x pos')) pos.line X.env = pure false := by rfl) (hf : X.fn x = true ∨ X.env.scope.names.lookup x = some .local := by first | exact .inl rfl | exact .inr rfl | assumption) : G1 B X (.Assign [.Name x pos'] e pos) Γ E := fun D Hs σ H R S =>
  ps_of (ps_set c.nd hi hx pe_W hs hf) (h Hs σ H _ S fun d Γ1 v Hs1 H1 ⟨l, p⟩ s S1 q => R.nx _ Hs1 _ H1 p s (S1.putD l q))
/-- a new list, to be changed -/
theorem g1_setL (c : Bod X k) (i : Nat) {x : Str} {e : Expr} {pos' : Pos} (hi : X.N[i]? = some x) (hx : Loc X.env.scope x) (h : GF B X e Γ fun ds Γ1 => i < Γ1.length ∧ ∀ a, Alone Γ1 a → E.nx (Γ1.set i (.own a ds)))
    (hs : swapsWith e (some (.Name x pos')) pos.line X.env = pure false := by rfl) (hf : X.fn x = true ∨ X.env.scope.names.lookup x = some .local := by first | exact .inl rfl | exact .inr rfl | assumption) : G1 B X (.Assign [.Name x pos'] e pos) Γ E := fun D Hs σ H R S =>
  ps_of (ps_set c.nd hi hx pe_W hs hf) (h Hs σ H _ S fun ds Γ1 a vs Hs1 H1 ⟨l, p⟩ s S1 f n al ha q => R.nx _ Hs1 _ H1 (p a al) s (S1.putL l f n ha q al))
end
/-! ### targets -/
section
variable (X : Cx)
@[irreducible] def tgW (t : Expr) : TG := fun v σ H Q => ∀ (pins : List (Addr × Obj)) (s : Shared) (u : Value), Inv X pins σ H s → RelV v u → wpAny (model X.prog X.w) X.A (assign t X.env u) (fun _ s' => ∃ σ' H', Inv X pins σ' H' s' ∧ Q σ' H') X.xe s
variable {X}
theorem tgI {t : Expr} {v : V} {σ : L2.St} {H : Hp} {Q : L2.St → Hp → Prop} (h : ∀ (pins : List (Addr × Obj)) (s : Shared) (u : Value), Inv X pins σ H s → RelV v u → wpAny (model X.prog X.w) X.A (assign t X.env u) (fun _ s' => ∃ σ' H', Inv X pins σ' H' s' ∧ Q σ' H') X.xe s) : tgW X t v σ H Q := by unfold tgW; exact h
theorem tgE {t : Expr} {v : V} {σ : L2.St} {H : Hp} {Q : L2.St → Hp → Prop} (h : tgW X t v σ H Q) : ∀ (pins : List (Addr × Obj)) (s : Shared) (u : Value), Inv X pins σ H s → RelV v u → wpAny (model X.prog X.w) X.A (assign t X.env u) (fun _ s' => ∃ σ' H', Inv X pins σ' H' s' ∧ Q σ' H') X.xe s := by unfold tgW at h; exact h
theorem pg_W {t : Expr} : PG X t (tgW X t) := ⟨fun pins s _ _ _ u _ I r h => tgE h pins s u I r⟩
theorem pg_of {t : Expr} {g : TG} (p : PG X t g) {v : V} {σ : L2.St} {H : Hp} {Q : L2.St → Hp → Prop} (h : g v σ H Q) : tgW X t v σ H Q := tgI fun pins s u I r => p.run pins s σ H v u Q I r h
end
/-- data are given to a target -/
def GG (B : Bas) (X : Cx) (t : Expr) (d : PyData) (Γ : List Sl) (φ : List Sl → Prop) : Prop := ∀ (Hs : Hp) (σ : L2.St) (H : Hp) (v : V) (Q : L2.St → Hp → Prop), Sx B Hs σ H Γ → Dv Hs v d → (∀ Γ' Hs' σ' H', φ Γ' → Same Hs Hs' → Sx B Hs' σ' H' Γ' → Q σ' H') → tgW X t v σ H Q
/-- several -/
def GGs (B : Bas) (X : Cx) (ts : List Expr) (ds : List PyData) (Γ : List Sl) (φ : List Sl → Prop) : Prop := ∃ g, PGs X ts g ∧ ∀ (Hs : Hp) (σ : L2.St) (H : Hp) (vs : List V) (Q : L2.St → Hp → Prop), Sx B Hs σ H Γ → DvAll Hs vs ds → (∀ Γ' Hs' σ' H', φ Γ' → Same Hs Hs' → Sx B Hs' σ' H' Γ' → Q σ' H') → g vs σ H Q
section
variable {B : Bas} {X : Cx} {Γ : List Sl} {E : DE} {pos : Pos} {k : Nat}
theorem gg_name (nd : X.N.Nodup) (i : Nat) {x : Str} {d : PyData} {φ : List Sl → Prop} (hi : X.N[i]? = some x) (hx : Loc X.env.scope x) (h : i < Γ.length ∧ φ (Γ.set i (.d d))) (hf : X.fn x = true ∨ X.env.scope.names.lookup x = some .local := by first | exact .inl rfl | exact .inr rfl | assumption) : GG B X (.Name x pos) d Γ φ := fun Hs σ H v Q S q g =>
  pg_of (pg_name (i := i) nd hi hx hf) (g _ Hs _ H h.2 (Same.refl _) (S.putD h.1 q))
theorem ggs_nil {φ : List Sl → Prop} (h : φ Γ) : GGs B X [] [] Γ φ := ⟨gNil, pgs_nil, fun Hs σ H vs Q S q g => ⟨dvs_nil q, g Γ Hs σ H h (Same.refl _) S⟩⟩
theorem ggs_cons {t : Expr} {ts : List Expr} {d : PyData} {ds : List PyData} {φ : List Sl → Prop} (M : List Sl) (h : GG B X t d Γ (· = M)) (h2 : GGs B X ts ds M φ)
    (hs : (assignEach (t :: ts) X.env).map (·.2) = assign t X.env :: (assignEach ts X.env).map (·.2) := by rfl) : GGs B X (t :: ts) (d :: ds) Γ φ := by
  obtain ⟨u, q, h2⟩ := h2
  refine ⟨gCons (tgW X t) u, pgs_cons pg_W q hs, fun Hs σ H vs Q S dv k => ?_⟩
  cases dv with
  | cons a r => exact ⟨_, _, rfl, h Hs σ H _ _ S a fun Γ1 Hs1 σ1 H1 e s S1 => by
      subst e
      exact h2 Hs1 σ1 H1 _ Q S1 (r.mono s) fun Γ2 Hs2 σ2 H2 p2 s2 S2 => k Γ2 Hs2 σ2 H2 p2 (s.trans s2) S2⟩
theorem gg_tup (calm : X.calm = true) {ts : List Expr} {n1 : Nat} {ds : List PyData} {φ : List Sl → Prop} (h : GGs B X ts ds Γ φ) {n : Nat} (hn : (assignEach ts X.env).length = n := by rfl) (hl : ds.length = n := by rfl) (hst : (assignEach ts X.env).findIdx? (·.1) = none := by rfl) : GG B X (.Tuple ts n1 pos) (.tuple ds) Γ φ := fun Hs σ H v Q S q k => by
  obtain ⟨g, p, h⟩ := h
  refine pg_of (pg_tup calm p hn hst) ?_
  cases q with
  | tup r a => exact ⟨_, _, rfl, rdT (rd_up S.sub r), a.len.trans hl, h Hs σ H _ Q S a k⟩
theorem g1_asg {t e : Expr} (h : GE B X e Γ fun d Γ1 => GG B X t d Γ1 E.nx) (hs : swapsWithSole [t] e pos.line X.env = pure false := by rfl) (hw : swappedStores [t] e X.env = pure none := by rfl)
    (h1 : (assignEach [t] X.env).map (·.2) = [assign t X.env] := by rfl) : G1 B X (.Assign [t] e pos) Γ E := fun D Hs σ H R S =>
  ps_of (ps_asg pe_W pg_W hs hw h1) (h Hs σ H _ S fun d Γ1 v Hs1 H1 p s S1 q => p Hs1 σ H1 v D.nx S1 q fun Γ2 Hs2 σ2 H2 n s2 S2 => R.nx Γ2 Hs2 σ2 H2 n (s.trans s2) S2)
/-- a list of one's own is changed at a place -/
theorem g1_put (i : Nat) {x : Str} {e j : Expr} {p0 ps : Pos} {ad : Addr} (hN : X.N[i]? = some x) (hv : Vis X.env.scope x)
    (h : GE B X e Γ fun d Γ1 => (∃ ds, Γ1[i]? = some (.own ad ds)) ∧ GE B X j Γ1 fun dj Γ2 => ∃ ds m, Γ2[i]? = some (.own ad ds) ∧ ∃ n, dj = .int n ∧ ixN ds.length n = some m ∧ E.nx (Γ2.set i (.own ad (ds.set m d))))
    (hd : (x == ("__debug__" : Str)) = false := by decide) (hcd : (x == ("__classdict__" : Str)) = false := by decide)
    (ha : ∀ v, assign (.Subscript (.Name x p0) j ps) X.env v = (do
      let ov ← holding [v] (eval (.Name x p0) X.env)
      let iv ← holding [v, ov] (eval j X.env)
      standAt ps
      holding [v, ov, iv] (setItem ov iv v)
      release [v, ov, iv] []) := by intro _; rfl)
    (hs : swapsWithSole [.Subscript (.Name x p0) j ps] e pos.line X.env = pure false := by rfl) (hw : swappedStores [.Subscript (.Name x p0) j ps] e X.env = pure none := by rfl)
    (h1 : (assignEach [.Subscript (.Name x p0) j ps] X.env).map (·.2) = [assign (.Subscript (.Name x p0) j ps) X.env] := by rfl) : G1 B X (.Assign [.Subscript (.Name x p0) j ps] e pos) Γ E := fun D Hs σ H R S =>
  ps_of (ps_asg pe_W (pg_sub (pe_var hN hv hd hcd) pe_W set_list ha) hs hw h1) (h Hs σ H _ S fun d Γ1 v Hs1 H1 ⟨⟨ds1, g1⟩, p⟩ s S1 q => by
    obtain ⟨e1, _⟩ := S1.lst g1
    refine ⟨_, e1, p Hs1 σ H1 _ S1 fun dj Γ2 vj Hs2 H2 ⟨ds, m, g2, n, ej, ix, nx⟩ s2 S2 qj => ?_⟩
    subst ej
    cases qj
    obtain ⟨_, _, _, vs, hv2, dv⟩ := S2.lst g2
    exact ⟨ad, vs, n, m, rfl, rfl, hv2, by rw [dv.len]; exact ix, R.nx _ Hs2 σ _ nx (s.trans s2) (S2.upd g2 (dvs_set m dv (q.mono s2)))⟩)
end
end Px
/-! Loops and comprehensions. -/
namespace Px
open PySem PySem.Spec PyProof.Rows L2 Tc
variable [Px.Fld]
section
variable (X : Cx) (tg : Expr)
@[irreducible] def tiW (iter : Expr) : TI := fun σ H R => ∀ (pins : List (Addr × Obj)) (s : Shared), Inv X pins σ H s → wpAny (model X.prog X.w) X.A (eval iter X.env) (fun v s1 => wpAny (model X.prog X.w) X.A (pyIter v) (PIE X pins σ tg R) X.xe s1) X.xe s
variable {X tg}
theorem tiI {iter : Expr} {σ : L2.St} {H : Hp} {R : It → Hp → Prop} (h : ∀ (pins : List (Addr × Obj)) (s : Shared), Inv X pins σ H s → wpAny (model X.prog X.w) X.A (eval iter X.env) (fun v s1 => wpAny (model X.prog X.w) X.A (pyIter v) (PIE X pins σ tg R) X.xe s1) X.xe s) : tiW X tg iter σ H R := by unfold tiW; exact h
theorem tiE {iter : Expr} {σ : L2.St} {H : Hp} {R : It → Hp → Prop} (h : tiW X tg iter σ H R) : ∀ (pins : List (Addr × Obj)) (s : Shared), Inv X pins σ H s → wpAny (model X.prog X.w) X.A (eval iter X.env) (fun v s1 => wpAny (model X.prog X.w) X.A (pyIter v) (PIE X pins σ tg R) X.xe s1) X.xe s := by unfold tiW at h; exact h
theorem pi_W {iter : Expr} : PI X tg iter (tiW X tg iter) := ⟨fun pins s _ _ _ I h => tiE h pins s I⟩
theorem pi_of {iter : Expr} {wi : TI} (p : PI X tg iter wi) {σ : L2.St} {H : Hp} {R : It → Hp → Prop} (h : wi σ H R) : tiW X tg iter σ H R := tiI fun pins s I => p.run pins s σ H R I h
end
/-- n items, f i the i-th of them, while the slots keep what is asked -/
def Its (keep : List Sl → Prop) (Hs1 : Hp) (J : It) (n : Nat) (f : Nat → PyData) : Prop := ∃ (G : Hp → Prop) (Y : Nat → Hp → V → Hp → Prop), Walk J n G Y ∧
  (∀ B Hs σ H Γ, keep Γ → Same Hs1 Hs → Sx B Hs σ H Γ → G H) ∧ ∀ B i Hs σ H Γ x H', i < n → keep Γ → Same Hs1 Hs → Sx B Hs σ H Γ → Y i H x H' → ∃ Hs', Same Hs Hs' ∧ Sx B Hs' σ H' Γ ∧ Dv Hs' x (f i)
def GI (B : Bas) (X : Cx) (tg iter : Expr) (Γ : List Sl) (φ : Nat → (Nat → PyData) → (List Sl → Prop) → List Sl → Prop) : Prop := ∀ (Hs : Hp) (σ : L2.St) (H : Hp) (R : It → Hp → Prop), Sx B Hs σ H Γ →
  (∀ n f keep Γ1 J Hs1 H1, φ n f keep Γ1 → Same Hs Hs1 → Sx B Hs1 σ H1 Γ1 → Its keep Hs1 J n f → R J H1) → tiW X tg iter σ H R
abbrev nth (ds : List PyData) : Nat → PyData := fun i => ds.getD i .none
theorem nth_at {ds : List PyData} {i : Nat} {d : PyData} (h : ds[i]? = some d) : nth ds i = d := by
  show ds.getD i .none = d
  rw [List.getD_eq_getElem?_getD, h] <;> rfl
section
variable {X : Cx} {tg : Expr}
def iSeq (K : PySem.W.Frag) (tl : TE) : TI := fun σ H R => tl σ H fun x H1 => (∃ a, x = .ref a ∧ (∃ xs, SqL K H1 a xs) ∧ R (Itl K a) H1) ∨ ∃ a, x = .ref a ∧ (∃ xs, SqT K H1 a xs) ∧ R (Itt K a) H1
theorem pi_seq {l : Expr} {tl : TE} (hl : PE X l tl) : PI X tg l (iSeq X.K tl) := by
  refine ⟨fun pins s σ H R I h => ?_⟩
  refine thn (hl.run pins s σ H _ I h) fun v s1 ⟨x, H1, I1, r1, q1⟩ => ?_
  rcases q1 with ⟨a, e, ⟨xs, hq⟩, q⟩ | ⟨a, e, ⟨xs, hq⟩, q⟩
  · subst e
    cases r1
    obtain ⟨its, rv, p, hz⟩ := I1.list hq
    refine wpAny_pyIter_list p.isList ?_
    refine ⟨s1.heap.objs.size, [s1.heap.objs.size], _, _, H1, rfl, I1.kept (t' := s1.toks) fun b o e => Heap.get?_push_of_some _ e, turn_list a _, ⟨_, Heap.get?_push_size _ rfl, rfl, rfl⟩, fun b hb => ?_, q⟩
    have e : b = s1.heap.objs.size := by simpa using hb
    subst e
    exact I1.fpOk (Nat.le_refl _) (I1.hok.fresh (Nat.le_refl _))
  · subst e
    cases r1
    obtain ⟨its, rv, p, hz⟩ := I1.tuple hq
    refine wpAny_pyIter_tuple (show s1.heap.IsTuple a its.toArray from p) ?_
    refine ⟨s1.heap.objs.size, [s1.heap.objs.size], _, _, H1, rfl, I1.kept (t' := s1.toks) fun b o e => Heap.get?_push_of_some _ e, turn_tuple a _, ⟨_, Heap.get?_push_size _ rfl, rfl, rfl⟩, fun b hb => ?_, q⟩
    have e : b = s1.heap.objs.size := by simpa using hb
    subst e
    exact I1.fpOk (Nat.le_refl _) (I1.hok.fresh (Nat.le_refl _))
end
section
variable {B : Bas} {X : Cx} {Γ : List Sl} {E : DE} {pos : Pos} {k : Nat} {tg : Expr}
/-- what a walk over a sequence is over -/
def SeqD (d : PyData) (k : List PyData → Prop) : Prop := match d with
  | .list ds => k ds
  | .tuple ds => k ds
  | _ => False
theorem its_at {ks : Bool} {Hs : Hp} {a : Addr} {vs : List V} {ds : List PyData} {K : PySem.W.Frag} (r : if ks = true then Rd Hs a (.lst vs) else Rd Hs a (.tup vs)) (d : DvAll Hs vs ds) : Its (fun _ => True) Hs (if ks = true then Itl K a else Itt K a) ds.length (nth ds) := by
  have y : ∀ B i Hs2 σ H Γ x H', Same Hs Hs2 → Sx B Hs2 σ H Γ → YAt vs i H x H' → ∃ Hs', Same Hs2 Hs' ∧ Sx B Hs' σ H' Γ ∧ Dv Hs' x (nth ds i) := by
    rintro B i Hs2 σ H Γ x _ s2 S ⟨rfl, e⟩
    obtain ⟨d', e', dv⟩ := dvs_get' d e
    rw [nth_at e']
    exact ⟨Hs2, Same.refl _, S, dv.mono s2⟩
  cases ks with
  | true =>
    refine ⟨_, _, d.len ▸ walk_list (K := K) (a := a) (xs := vs), fun B Hs2 σ H Γ _ s2 S => rdL (rd_up S.sub (rd_up s2 r)), fun B i Hs2 σ H Γ x H' _ _ s2 S h => y B i Hs2 σ H Γ x H' s2 S h⟩
  | false =>
    refine ⟨_, _, d.len ▸ walk_tup (K := K) (a := a) (xs := vs), fun B Hs2 σ H Γ _ s2 S => rdT (rd_up S.sub (rd_up s2 r)), fun B i Hs2 σ H Γ x H' _ _ s2 S h => y B i Hs2 σ H Γ x H' s2 S h⟩
theorem gi_seq {e : Expr} {φ : Nat → (Nat → PyData) → (List Sl → Prop) → List Sl → Prop} (h : GE B X e Γ fun d Γ1 => SeqD d fun ds => φ ds.length (nth ds) (fun _ => True) Γ1) : GI B X tg e Γ φ := fun Hs σ H R S g =>
  pi_of (pi_seq pe_W) (show teW X e σ H _ from h Hs σ H _ S fun d Γ1 v Hs1 H1 p s S1 q => by
    cases q with
    | lst r a => exact .inl ⟨_, rfl, ⟨_, rdL (rd_up S1.sub r)⟩, g _ _ _ Γ1 _ Hs1 H1 p s S1 (its_at (ks := true) r a)⟩
    | tup r a => exact .inr ⟨_, rfl, ⟨_, rdT (rd_up S1.sub r)⟩, g _ _ _ Γ1 _ Hs1 H1 p s S1 (its_at (ks := false) r a)⟩
    | _ => exact p.elim)
/-! ### ranges -/
theorem its_rg {lo : Int} {n : Nat} {Hs : Hp} : Its (fun _ => True) Hs (Itr lo n) n (fun i => .int (lo + i)) := ⟨_, _, walk_range, fun _ _ _ _ _ _ _ _ => trivial, by
  rintro B i Hs2 σ H Γ x _ _ _ s2 S ⟨rfl, rfl⟩
  exact ⟨Hs2, Same.refl _, S, .int _⟩⟩
theorem its_rgC {lo c : Int} {n : Nat} {Hs : Hp} : Its (fun _ => True) Hs (Itc lo c n) n (fun i => .int (lo + (i : Nat) * c)) := ⟨_, _, walk_rangeC, fun _ _ _ _ _ _ _ _ => trivial, by
  rintro B i Hs2 σ H Γ x _ _ _ s2 S ⟨rfl, rfl⟩
  exact ⟨Hs2, Same.refl _, S, .int _⟩⟩
section
variable {p : Pos} {a b c : Expr} {φ : Nat → (Nat → PyData) → (List Sl → Prop) → List Sl → Prop}
theorem gi_rg1 {x : Str} (hx : x = "range") (hg : Gl X x) (hm : X.mg x = none) (h : GA B X [a] Γ fun ds Γ1 => ∃ j : Int, ds = [.int j] ∧ -(2 ^ 62) ≤ j ∧ j < 2 ^ 62 ∧ φ j.toNat (fun i => .int (0 + (i : Int))) (fun _ => True) Γ1) (hs : starEach [a] X.env = [(false, eval a X.env)] := by rfl) : GI B X tg (.Call (.Name x p) [a] [] pos) Γ φ := by
  subst hx
  exact fun Hs σ H R S g => pi_of (pi_range1 hg hm pa_W hs) (h Hs σ H _ S fun ds Γ1 vs Hs1 H1 ⟨j, e, l1, l2, q⟩ s S1 dv => by
    subst e
    have ev := dvs_ints (ns := [j]) dv
    exact ⟨j, ev, l1, l2, g _ _ _ Γ1 _ Hs1 H1 q s S1 its_rg⟩)
theorem gi_rg2 {x : Str} (hx : x = "range") (hg : Gl X x) (hm : X.mg x = none) (h : GA B X [a, b] Γ fun ds Γ1 => ∃ i j : Int, ds = [.int i, .int j] ∧ (-(2 ^ 62) ≤ i ∧ i < 2 ^ 62 ∧ -(2 ^ 62) ≤ j ∧ j < 2 ^ 62) ∧ φ (j - i).toNat (fun t => .int (i + (t : Int))) (fun _ => True) Γ1)
    (hs : starEach [a, b] X.env = [(false, eval a X.env), (false, eval b X.env)] := by rfl) (hs2 : starEach [b] X.env = [(false, eval b X.env)] := by rfl) : GI B X tg (.Call (.Name x p) [a, b] [] pos) Γ φ := by
  subst hx
  exact fun Hs σ H R S g => pi_of (pi_range2 hg hm pa_W hs hs2) (h Hs σ H _ S fun ds Γ1 vs Hs1 H1 ⟨i, j, e, l, q⟩ s S1 dv => by
    subst e
    have ev := dvs_ints (ns := [i, j]) dv
    exact ⟨i, j, ev, l, g _ _ _ Γ1 _ Hs1 H1 q s S1 its_rg⟩)
theorem gi_rg3 {x : Str} (hx : x = "range") (hg : Gl X x) (hm : X.mg x = none) (h : GA B X [a, b, c] Γ fun ds Γ1 => ∃ (i j d : Int) (n : Nat), ds = [.int i, .int j, .int d] ∧ RgC i j d n ∧ φ n (fun t => .int (i + (t : Nat) * d)) (fun _ => True) Γ1)
    (hs : starEach [a, b, c] X.env = (false, eval a X.env) :: starEach [b, c] X.env := by rfl) (hpl : (backTo pos (starEach [b, c] X.env)).any (·.1) = false := by rfl) : GI B X tg (.Call (.Name x p) [a, b, c] [] pos) Γ φ := by
  subst hx
  exact fun Hs σ H R S g => pi_of (pi_range3 hg hm pa_W hs hpl) (h Hs σ H _ S fun ds Γ1 vs Hs1 H1 ⟨i, j, d, n, e, l, q⟩ s S1 dv => by
    subst e
    have ev := dvs_ints (ns := [i, j, d]) dv
    exact ⟨i, j, d, n, ev, l, g _ _ _ Γ1 _ Hs1 H1 q s S1 its_rgC⟩)
end
/-! ### for -/
theorem g1_for (c : Bod X k) {t iter : Expr} {body : List Stmt} (h : GI B X t iter Γ fun n f keep Γ1 => ∃ I : Nat → List Sl → Prop, I 0 Γ1 ∧ (∀ i Γ, i ≤ n → I i Γ → keep Γ) ∧
      (∀ i Γ, i < n → I i Γ → GG B X t (f i) Γ fun Γ' => Gs B X body Γ' { E with nx := I (i + 1), ct := I (i + 1), bk := E.nx }) ∧ ∀ Γ, I n Γ → E.nx Γ)
    (hs : ∀ x, foldedSetIterable iter X.env x = pure x := by intro _; rfl) : G1 B X (.For t iter body [] pos) Γ E := fun D Hs σ H R S =>
  ps_of (ps_for c.po c.calm pi_W pg_W pss_W hs) (h Hs σ H _ S fun n f keep Γ1 J Hs1 H1 ⟨I, i0, ik, step, done⟩ s S1 ⟨G, Y, w, wg, wy⟩ => by
    refine for_it w (fun i σ' H' => ∃ Γ' Hs', I i Γ' ∧ Same Hs1 Hs' ∧ Sx B Hs' σ' H' Γ') ⟨Γ1, Hs1, i0, Same.refl _, S1⟩ ?_ ?_ ?_
    · rintro i σ' H' hi ⟨Γ', Hs', p, s', S'⟩
      exact wg B Hs' σ' H' Γ' (ik i Γ' hi p) s' S'
    · rintro i x σ' H' H'' hi ⟨Γ', Hs', p, s', S'⟩ y
      obtain ⟨Hs2, s2, S2, dv⟩ := wy B i Hs' σ' H' Γ' x H'' hi (ik i Γ' (Nat.le_of_lt hi) p) s' S' y
      refine step i Γ' hi p Hs2 σ' H'' x _ S2 dv fun Γ3 Hs3 σ3 H3 body s3 S3 => ?_
      have s13 : Same Hs1 Hs3 := s'.trans (s2.trans s3)
      refine body { D with nx := fun σ' H' => ∃ Γ' Hs', I (i + 1) Γ' ∧ Same Hs1 Hs' ∧ Sx B Hs' σ' H' Γ', ct := fun σ' H' => ∃ Γ' Hs', I (i + 1) Γ' ∧ Same Hs1 Hs' ∧ Sx B Hs' σ' H' Γ', bk := D.nx } Hs3 σ3 H3 ⟨fun Γ4 Hs4 σ4 H4 p4 s4 S4 => ⟨Γ4, Hs4, p4, s13.trans s4, S4⟩, fun d Γ4 v Hs4 σ4 H4 p4 s4 S4 q4 => R.rt d Γ4 v Hs4 σ4 H4 p4 (s.trans (s13.trans s4)) S4 q4, fun Γ4 Hs4 σ4 H4 p4 s4 S4 => R.nx Γ4 Hs4 σ4 H4 p4 (s.trans (s13.trans s4)) S4, fun Γ4 Hs4 σ4 H4 p4 s4 S4 => ⟨Γ4, Hs4, p4, s13.trans s4, S4⟩⟩ S3
    · rintro σ' H' ⟨Γ', Hs', p, s', S'⟩
      exact R.nx Γ' Hs' σ' H' (done Γ' p) (s.trans s') S')
end
/-! ### comprehensions -/
def clr (Γ : List Sl) : List Nat → List Sl
  | [] => Γ
  | v :: vs => (clr Γ vs).set v .no
theorem clr_len (Γ : List Sl) : ∀ vs, (clr Γ vs).length = Γ.length
  | [] => rfl
  | v :: vs => by
    show ((clr Γ vs).set v .no).length = _
    rw [List.length_set, clr_len Γ vs]
theorem clr_in {Γ : List Sl} {j : Nat} {s : Sl} : ∀ {vs : List Nat}, j ∈ vs → (clr Γ vs)[j]? = some s → s = .no
  | v :: vs, h, e => by
    rcases get_set (show ((clr Γ vs).set v .no)[j]? = some s from e) with ⟨_, z⟩ | ⟨n, e⟩
    · exact z
    · rcases List.mem_cons.mp h with z | z
      · exact absurd z n
      · exact clr_in z e
theorem clr_out {Γ : List Sl} {j : Nat} : ∀ {vs : List Nat}, j ∉ vs → (clr Γ vs)[j]? = Γ[j]?
  | [], _ => rfl
  | v :: vs, h => by
    show ((clr Γ vs).set v .no)[j]? = _
    rw [List.getElem?_set_ne fun z => h (by rw [z]; exact .head _)]
    exact clr_out fun z => h (.tail _ z)
theorem clr_some {Γ : List Sl} {j : Nat} {s : Sl} {vs : List Nat} (h : (clr Γ vs)[j]? = some s) (n : s ≠ .no) : j ∉ vs ∧ Γ[j]? = some s := by
  by_cases z : j ∈ vs
  · exact absurd (clr_in z h) n
  · exact ⟨z, (clr_out z).symm.trans h⟩
theorem wipe_there {σ : L2.St} {j : Nat} : ∀ {vs : List Nat}, j ∈ vs → j < σ.length → (wipe σ vs)[j]? = some none
  | v :: vs, h, l => by
    show ((wipe σ vs).set v none)[j]? = _
    by_cases e : v = j
    · subst e
      exact List.getElem?_set_self (by rw [wipe_length]; exact l)
    · rw [List.getElem?_set_ne e]
      rcases List.mem_cons.mp h with z | z
      · exact absurd z.symm e
      · exact wipe_there z l
theorem wipe_eq {σ σ' : L2.St} {vs : List Nat} (hl : σ.length = σ'.length) (h : ∀ j, j ∉ vs → σ[j]? = σ'[j]?) : wipe σ vs = wipe σ' vs := by
  refine List.ext_getElem? fun j => ?_
  by_cases e : j ∈ vs
  · by_cases l : j < σ.length
    · rw [wipe_there e l, wipe_there e (hl ▸ l)]
    · rw [List.getElem?_eq_none (by rw [wipe_length]; omega), List.getElem?_eq_none (by rw [wipe_length]; omega)]
  · rw [wipe_out e, wipe_out e]
    exact h j e
theorem wipe_same {σ σ' : L2.St} {vs : List Nat} (h : wipe σ vs = wipe σ' vs) : σ.length = σ'.length ∧ ∀ j, j ∉ vs → σ[j]? = σ'[j]? := by
  refine ⟨by rw [← wipe_length σ vs, h, wipe_length], fun j e => ?_⟩
  rw [← wipe_out (σ := σ) e, h, wipe_out e]
section
variable {B : Bas} {Hs : Hp} {σ σ2 : L2.St} {H : Hp} {Γ : List Sl} {vs : List Nat}
theorem Sx.clr (S : Sx B Hs σ H Γ) (h : σ2.length = σ.length) (e : ∀ j, j ∉ vs → σ2[j]? = σ[j]?) : Sx B Hs σ2 H (Px.clr Γ vs) := by
  refine ⟨S.fr, S.gr, S.sub, by rw [h, clr_len]; exact S.len, fun i s hs => ?_, fun i j a ds b es h1 h2 n => ?_, S.tb⟩
  · by_cases z : i ∈ vs
    · rw [clr_in z hs]
      exact trivial
    · rw [e i z]
      exact S.sl i s ((clr_out z).symm.trans hs)
  · exact S.ap i j a ds b es (clr_some h1 fun z => nomatch z).2 (clr_some h2 fun z => nomatch z).2 n
/-- a thing beside the slots is changed -/
theorem Sx.beside (S : Sx B Hs σ H Γ) {D : Addr} {o : HO} {u0 : HO} (hu : H D = some u0) (nu : noTb u0 = true) (n : Hs D = none) (f : B.fr D = none) (al : Alone Γ D) : Sx B Hs σ (L2.upd H D o) Γ := by
  refine ⟨fun b u e => ?_, S.gr, fun b u e => ?_, S.len, fun i s h => (S.sl i s h).mono (Same.refl _) fun a ds e => ?_, S.ap, tabs_updT S.tb hu nu⟩
  · have : b ≠ D := fun z => by rw [z, f] at e; cases e
    exact (upd_ne this).trans (S.fr b u e)
  · have : b ≠ D := fun z => by rw [z, n] at e; cases e
    exact (upd_ne this).trans (S.sub b u e)
  · subst e
    obtain ⟨_, _, m, _⟩ := S.lst h
    exact ⟨m, upd_ne (al i a ds h)⟩
/-- what stands at D is held, too -/
theorem Sx.hold (S : Sx B Hs σ H Γ) {D : Addr} {u : HO} (hD : H D = some u) (n : Hs D = none) (f : B.fr D = none) (al : Alone Γ D) : Sx ⟨L2.upd B.fr D u, Hs, B.T⟩ Hs σ H Γ := by
  refine ⟨fun b o e => ?_, Grow.refl _ _, S.sub, S.len, fun i s h => ?_, S.ap, S.tb⟩
  · by_cases z : b = D
    · subst z
      have e : L2.upd B.fr b u b = some o := e
      rw [upd_same] at e
      rw [hD]
      exact e
    · have e : L2.upd B.fr D u b = some o := e
      rw [upd_ne z] at e
      exact S.fr b o e
  · have q := S.sl i s h
    cases s with
    | own a ds =>
      obtain ⟨q1, q2, q3⟩ := q
      exact ⟨q1, (upd_ne (al i a ds h)).trans q2, q3⟩
    | _ => exact q
theorem Sx.loose {F : Hp} {hs0 Hs0 : Hp} {T0 : List (Addr × Str)} {D : Addr} {u : HO} (S : Sx ⟨L2.upd F D u, Hs0, T0⟩ Hs σ H Γ) (g : Grow F hs0 Hs0) (f : F D = none) (n : Hs0 D = none) : Sx ⟨F, hs0, T0⟩ Hs σ H Γ ∧ H D = some u ∧ Hs D = none ∧ Alone Γ D := by
  have up : ∀ b, F b ≠ none → L2.upd F D u b ≠ none := fun b hb => by
    by_cases z : b = D
    · rw [z, upd_same]
      exact fun z => nomatch z
    · rw [upd_ne z]
      exact hb
  refine ⟨⟨fun b o e => S.fr b o ?_, g.trans (S.gr.mono up), S.sub, S.len, fun i s h => ?_, S.ap, S.tb⟩, S.fr D u upd_same, S.gr.off D n (by show L2.upd F D u D ≠ none; rw [upd_same]; exact fun z => nomatch z), fun i b es h z => ?_⟩
  · have : b ≠ D := fun z => by
      have e : F b = some o := e
      rw [z, f] at e
      cases e
    exact (upd_ne this).trans e
  · have q := S.sl i s h
    cases s with
    | own a ds =>
      obtain ⟨q1, q2, q3⟩ := q
      have q2 : L2.upd F D u a = none := q2
      have : a ≠ D := fun z => by rw [z, upd_same] at q2; cases q2
      exact ⟨q1, (upd_ne this).symm.trans q2, q3⟩
    | _ => exact q
  · obtain ⟨_, q2, _⟩ := S.lst h
    have q2 : L2.upd F D u b = none := q2
    rw [z, upd_same] at q2
    cases q2
end
/-- data are given to a comprehension's target -/
def GC (B : Bas) (X : Cx) (vs : List Nat) (t : Expr) (d : PyData) (Γ : List Sl) (φ : List Sl → Prop) : Prop := ∀ (Hs : Hp) (σ : L2.St) (H : Hp) (v : V) (Q : L2.St → Hp → Prop), Sx B Hs σ H Γ → Dv Hs v d → (∀ Γ' Hs' σ' H', φ Γ' → Same Hs Hs' → Sx B Hs' σ' H' Γ' → wipe σ' vs = wipe σ vs → Q σ' H') → tgW X t v σ H Q
def GCs (B : Bas) (X : Cx) (vs : List Nat) (ts : List Expr) (ds : List PyData) (Γ : List Sl) (φ : List Sl → Prop) : Prop := ∃ g, PGs X ts g ∧ ∀ (Hs : Hp) (σ : L2.St) (H : Hp) (us : List V) (Q : L2.St → Hp → Prop), Sx B Hs σ H Γ → DvAll Hs us ds → (∀ Γ' Hs' σ' H', φ Γ' → Same Hs Hs' → Sx B Hs' σ' H' Γ' → wipe σ' vs = wipe σ vs → Q σ' H') → g us σ H Q
/-- tests of a comprehension -/
@[irreducible] def tpW (X : Cx) (ifs : List Expr) : TT := fun σ H Q => ∀ (pins : List (Addr × Obj)) (s : Shared), Inv X pins σ H s → wpAny (model X.prog X.w) X.A (forIn ifs true fun c r => if r = true then do let ok ← isTrue c X.env (eval c X.env); pure (ForInStep.yield ok) else pure (ForInStep.yield r)) (TP X pins σ Q) X.xe s
theorem tpI {X : Cx} {ifs : List Expr} {σ : L2.St} {H : Hp} {Q : Bool → Hp → Prop} (h : ∀ (pins : List (Addr × Obj)) (s : Shared), Inv X pins σ H s → wpAny (model X.prog X.w) X.A (forIn ifs true fun c r => if r = true then do let ok ← isTrue c X.env (eval c X.env); pure (ForInStep.yield ok) else pure (ForInStep.yield r)) (TP X pins σ Q) X.xe s) : tpW X ifs σ H Q := by unfold tpW; exact h
theorem tpE {X : Cx} {ifs : List Expr} {σ : L2.St} {H : Hp} {Q : Bool → Hp → Prop} (h : tpW X ifs σ H Q) : ∀ (pins : List (Addr × Obj)) (s : Shared), Inv X pins σ H s → wpAny (model X.prog X.w) X.A (forIn ifs true fun c r => if r = true then do let ok ← isTrue c X.env (eval c X.env); pure (ForInStep.yield ok) else pure (ForInStep.yield r)) (TP X pins σ Q) X.xe s := by unfold tpW at h; exact h
theorem pts_of {X : Cx} {ifs : List Expr} {t : TT} (p : PTs X ifs t) {σ : L2.St} {H : Hp} {Q : Bool → Hp → Prop} (h : t σ H Q) : tpW X ifs σ H Q := tpI fun pins s I => p.run pins s σ H Q I h
def GP (B : Bas) (X : Cx) (ifs : List Expr) (Γ : List Sl) (φ : Bool → List Sl → Prop) : Prop := ∀ (Hs : Hp) (σ : L2.St) (H : Hp) (Q : Bool → Hp → Prop), Sx B Hs σ H Γ →
  (∀ b Γ' Hs' H', φ b Γ' → Same Hs Hs' → Sx B Hs' σ H' Γ' → Q b H') → tpW X ifs σ H Q
section
variable {B : Bas} {X : Cx} {Γ : List Sl} {pos : Pos} {k : Nat} {vs : List Nat}
theorem gp_nil {φ : Bool → List Sl → Prop} (h : φ true Γ) : GP B X [] Γ φ := fun Hs σ H Q S g => pts_of pts_nil (g true Γ Hs H h (Same.refl _) S)
theorem gp_one {t : Expr} {φ : Bool → List Sl → Prop} (h : GT B X t Γ φ) : GP B X [t] Γ φ := fun Hs σ H Q S g => pts_of (pts_one pt_W) (h Hs σ H Q S g)
theorem gc_name (nd : X.N.Nodup) (i : Nat) {x : Str} {d : PyData} {φ : List Sl → Prop} (hi : X.N[i]? = some x) (hx : Loc X.env.scope x) (hm : i ∈ vs) (h : i < Γ.length ∧ φ (Γ.set i (.d d))) (hf : X.fn x = true ∨ X.env.scope.names.lookup x = some .local := by first | exact .inl rfl | exact .inr rfl | assumption) : GC B X vs (.Name x pos) d Γ φ := fun Hs σ H v Q S q g =>
  pg_of (pg_name (i := i) nd hi hx hf) (g _ Hs _ H h.2 (Same.refl _) (S.putD h.1 q) (wipe_eq (List.length_set ..) fun j hj => List.getElem?_set_ne fun z => hj (by rw [← z]; exact hm)))
theorem gcs_nil {φ : List Sl → Prop} (h : φ Γ) : GCs B X vs [] [] Γ φ := ⟨gNil, pgs_nil, fun Hs σ H us Q S q g => ⟨dvs_nil q, g Γ Hs σ H h (Same.refl _) S rfl⟩⟩
theorem gcs_cons {t : Expr} {ts : List Expr} {d : PyData} {ds : List PyData} {φ : List Sl → Prop} (M : List Sl) (h : GC B X vs t d Γ (· = M)) (h2 : GCs B X vs ts ds M φ)
    (hs : (assignEach (t :: ts) X.env).map (·.2) = assign t X.env :: (assignEach ts X.env).map (·.2) := by rfl) : GCs B X vs (t :: ts) (d :: ds) Γ φ := by
  obtain ⟨u, q, h2⟩ := h2
  refine ⟨gCons (tgW X t) u, pgs_cons pg_W q hs, fun Hs σ H us Q S dv k => ?_⟩
  cases dv with
  | cons a r => exact ⟨_, _, rfl, h Hs σ H _ _ S a fun Γ1 Hs1 σ1 H1 e s S1 w1 => by
      subst e
      exact h2 Hs1 σ1 H1 _ Q S1 (r.mono s) fun Γ2 Hs2 σ2 H2 p2 s2 S2 w2 => k Γ2 Hs2 σ2 H2 p2 (s.trans s2) S2 (w2.trans w1)⟩
theorem gc_tup (calm : X.calm = true) {ts : List Expr} {n1 : Nat} {ds : List PyData} {φ : List Sl → Prop} (h : GCs B X vs ts ds Γ φ) {n : Nat} (hn : (assignEach ts X.env).length = n := by rfl) (hl : ds.length = n := by rfl) (hst : (assignEach ts X.env).findIdx? (·.1) = none := by rfl) : GC B X vs (.Tuple ts n1 pos) (.tuple ds) Γ φ := fun Hs σ H v Q S q k => by
  obtain ⟨g, p, h⟩ := h
  refine pg_of (pg_tup calm p hn hst) ?_
  cases q with
  | tup r a => exact ⟨_, _, rfl, rdT (rd_up S.sub r), a.len.trans hl, h Hs σ H _ Q S a k⟩
/-- the block's contexts -/
abbrev blkX (X : Cx) (scope : Scope) (s : Shared) (H : Hp) (C : Addr) (cl : List (Str × Addr)) (fp : List Addr) : Cx := X.blk s H scope (compEnvC scope cl C X.env) fp
/-- what holds in all of the block's contexts -/
def Blk (X : Cx) (scope : Scope) (φ : Cx → Prop) : Prop := ∀ (s : Shared) (H : Hp) (C : Addr) (cl : List (Str × Addr)) (fp : List Addr), φ (blkX X scope s H C cl fp)
def tgB (X : Cx) (scope : Scope) (t : Expr) : TG := fun v σ H Q => ∀ s0 H0 C cl fp, tgW (blkX X scope s0 H0 C cl fp) t v σ H Q
def tpB (X : Cx) (scope : Scope) (ifs : List Expr) : TT := fun σ H Q => ∀ s0 H0 C cl fp, tpW (blkX X scope s0 H0 C cl fp) ifs σ H Q
def teB (X : Cx) (scope : Scope) (e : Expr) : TE := fun σ H Q => ∀ s0 H0 C cl fp, teW (blkX X scope s0 H0 C cl fp) e σ H Q
/-- [elt for t in iter if ..]; I: the turn, what is made so far -/
theorem gf_lc {elt t iter : Expr} {ifs : List Expr} {scope : Scope} {own : List (Str × Nat)} {φ : List PyData → List Sl → Prop} (calm : X.calm = true) (nd : X.N.Nodup) (ok : BlkOk X.N X.env.scope scope own)
    (h : GI B X t iter Γ fun n f keep Γ1 => ∃ I : Nat → List PyData → List Sl → Prop, I 0 [] (clr Γ1 (own.map (·.2))) ∧ (∀ i acc Γ, i ≤ n → I i acc Γ → keep Γ) ∧
      (∀ i acc Γ, i < n → I i acc Γ → ∀ B', Blk X scope fun Y => GC B' Y (own.map (·.2)) t (f i) (clr Γ (own.map (·.2))) fun Γ2 => Blk X scope fun Y => GP B' Y ifs Γ2 fun b Γ3 => if b = true then Blk X scope fun Y => GE B' Y elt Γ3 fun d Γ4 => acc.length < sizeLine ∧ I (i + 1) (acc ++ [d]) (clr Γ4 (own.map (·.2))) else I (i + 1) acc (clr Γ3 (own.map (·.2)))) ∧
      ∀ acc Γ, I n acc Γ → φ acc Γ)
    (hs : ∀ x, foldedSetIterable iter X.env x = pure x := by intro _; rfl) : GF B X (.ListComp elt [⟨t, iter, ifs, 0⟩] scope pos) Γ φ := fun Hs σ H Q S g =>
  pe_of (pe_lc (g := tgB X scope t) (tt := tpB X scope ifs) (te := teB X scope elt)
    calm nd pi_W ok (fun s0 H0 C cl fp => ⟨fun pins s _ _ _ u _ I r h => tgE (h s0 H0 C cl fp) pins s u I r⟩) (fun s0 H0 C cl fp => ⟨fun pins s _ _ _ I h => tpE (h s0 H0 C cl fp) pins s I⟩) (fun s0 H0 C cl fp => ⟨fun pins s _ _ _ I h => teE (h s0 H0 C cl fp) pins s I⟩) hs)
    (h Hs σ H _ S fun n f keep Γ1 J Hs1 H1 ⟨I, i0, ik, step, done⟩ s S1 ⟨G, Y, w, wg, wy⟩ D hD => by
      obtain ⟨fD, nD, al⟩ := alone_new S1 hD
      refine lc_it w (fun i H' => ∃ acc vs Γ' Hs', I i acc Γ' ∧ Same Hs1 Hs' ∧ Sx B Hs' σ H' Γ' ∧ H' D = some (.lst vs) ∧ DvAll Hs' vs acc ∧ Hs' D = none ∧ Alone Γ' D) ⟨[], [], _, Hs1, i0, Same.refl _, (S1.aside hD).clr rfl (fun _ _ => rfl), upd_same, .nil, nD, fun i b es e => al i b es (clr_some e fun z => nomatch z).2⟩ ?_ ?_ ?_
      · rintro i H' hi ⟨acc, vs, Γ', Hs', p, s', S', _⟩
        exact wg B Hs' σ H' Γ' (ik i acc Γ' hi p) s' S'
      · rintro i x H' H'' hi ⟨acc, vs, Γ', Hs', p, s', S', hD', dv, nD', al'⟩ y
        have SB := S'.hold hD' nD' fD al'
        have g0 : Grow B.fr B.hs Hs' := S'.gr
        obtain ⟨Hs2, s2, S2, dx⟩ := wy _ i Hs' σ H' Γ' x H'' hi (ik i acc Γ' (Nat.le_of_lt hi) p) s' SB y
        have body := step i acc Γ' hi p ⟨upd B.fr D (.lst vs), Hs', B.T⟩
        have S2w : Sx ⟨upd B.fr D (.lst vs), Hs', B.T⟩ Hs2 (wipe σ (own.map (·.2))) H'' (clr Γ' (own.map (·.2))) := S2.clr (wipe_length _ _) fun j hj => wipe_out hj
        have back : ∀ {Γ6 : List Sl} {Hs6 : Hp} {σ6 : L2.St} {H6 : Hp}, wipe σ6 (own.map (·.2)) = wipe σ (own.map (·.2)) → Sx ⟨upd B.fr D (.lst vs), Hs', B.T⟩ Hs6 σ6 H6 Γ6 → Sx B Hs6 σ H6 (clr Γ6 (own.map (·.2))) ∧ H6 D = some (.lst vs) ∧ Hs6 D = none ∧ Alone (clr Γ6 (own.map (·.2))) D := fun {Γ6 Hs6 σ6 H6} w6 S6 => by
          obtain ⟨l, e⟩ := wipe_same w6
          exact (S6.clr (vs := own.map (·.2)) l.symm fun j hj => (e j hj).symm).loose g0 fD nD'
        intro s0 H0 C cl fp
        refine body s0 H0 C cl fp Hs2 (wipe σ (own.map (·.2))) H'' x _ S2w dx fun Γ2 Hs3 σ3 H3 p3 s3 S3 w3 => ?_
        have w3 : wipe σ3 (own.map (·.2)) = wipe σ (own.map (·.2)) := w3.trans (wipe_eq (wipe_length _ _) fun j hj => wipe_out hj)
        refine ⟨w3, fun s0 H0 C cl fp => p3 s0 H0 C cl fp Hs3 σ3 H3 _ S3 fun b Γ3 Hs4 H4 p4 s4 S4 => ?_⟩
        cases b with
        | false =>
          obtain ⟨Sb, hb, nb, ab⟩ := back w3 S4
          have sAll : Same Hs' Hs4 := s2.trans (s3.trans s4)
          exact iteF ⟨acc, vs, _, Hs4, p4, s'.trans sAll, Sb, hb, dv.mono sAll, nb, ab⟩
        | true =>
          have p4 : Blk X scope fun Y => GE _ Y elt Γ3 fun d Γ4 => acc.length < sizeLine ∧ I (i + 1) (acc ++ [d]) (clr Γ4 (own.map (·.2))) := p4
          refine iteT fun s0 H0 C cl fp => p4 s0 H0 C cl fp Hs4 σ3 H4 _ S4 fun d Γ5 v5 Hs5 H5 ⟨hl, p5⟩ s5 S5 q5 => ?_
          obtain ⟨Sb, hb, nb, ab⟩ := back w3 S5
          have sAll : Same Hs' Hs5 := s2.trans (s3.trans (s4.trans s5))
          exact ⟨vs, hb, by rw [dv.len]; exact hl, acc ++ [d], vs ++ [v5], _, Hs5, p5, s'.trans sAll, Sb.beside hb rfl nb fD ab, upd_same, dvs_snoc (dv.mono sAll) q5, nb, ab⟩
      · rintro H' ⟨acc, vs, Γ', Hs', p, s', S', hD', dv, nD', al'⟩
        exact g acc Γ' D vs Hs' H' (done acc Γ' p) (s.trans s') S' fD nD' al' hD' dv)
end
end Px
/-! raise X(), X without an own __init__. -/
namespace Tc
open PySem PySem.Spec PyProof.Rows L2
end Tc
/-! Defs: what they promise of data, how they are called; errors of one's own. -/
namespace Px
open PySem PySem.Spec PyProof.Rows L2 Tc
variable [Px.Fld]
inductive Out where
  | ok (d : PyData)
  | up (C : Addr) (d : PyData)
def Out.to (o : Out) (a : PyData → Prop) (b : Addr → PyData → Prop) : Prop := match o with
  | .ok d => a d
  | .up C d => b C d
/-- it is raised, v kept -/
def upE (C : Addr) (v : V) (H : Hp) (E : XK) : Prop := ∀ dd, ddOk C H dd → E (.ref C) dd (ddH C v H dd)
/-- what a def of data gives -/
def spF (n : Nat) (pre : List PyData → Prop) (f : List PyData → Out) : Sp := fun vs H Q E => ∃ Hs ds, Same Hs H ∧ DvAll Hs vs ds ∧ ds.length = n ∧ pre ds ∧
  ∀ v Hs' H', Same H H' → Same Hs' H' → Grow H Hs Hs' → (f ds).to (fun d => Dv Hs' v d → Q v H') (fun C d => Dv Hs' v d → upE C v H' E)
/-- .. of a list that it changes, and of data; R tells what may come -/
def spP (n : Nat) (pre : List PyData → List PyData → Prop) (R : List PyData → List PyData → Out → List PyData → Prop) : Sp := fun vs H Q E => ∃ Hs a pv ws ps ds, vs = .ref a :: ws ∧ Same Hs H ∧ Hs a = none ∧ H a = some (.lst pv) ∧ DvAll Hs pv ps ∧ DvAll Hs ws ds ∧ ds.length = n ∧ pre ps ds ∧
  ∀ o ps', R ps ds o ps' → ∀ v Hs' H' pv', (∀ b u, H b = some u → b ≠ a → H' b = some u) → Same Hs' H' → Grow H Hs Hs' → H' a = some (.lst pv') → DvAll Hs' pv' ps' → o.to (fun d => Dv Hs' v d → Q v H') (fun C d => Dv Hs' v d → upE C v H' E)
/-- the slots at a def's start -/
def slots0 (N : List Str) (Γ : List Sl) : List Sl := Γ ++ List.replicate (N.length - Γ.length) .no
theorem start_get {N : List Str} {vs : List V} {i : Nat} {v : V} (h : vs[i]? = some v) : (L2.start N vs)[i]? = some (some v) := by
  show (vs.map some ++ _)[i]? = _
  rw [List.getElem?_append_left (by rw [List.length_map]; exact (List.getElem?_eq_some_iff.mp h).1), List.getElem?_map, h] <;> rfl
theorem slots_get {N : List Str} {Γ : List Sl} {i : Nat} {s : Sl} (h : (slots0 N Γ)[i]? = some s) : s = .no ∨ Γ[i]? = some s := by
  unfold slots0 at h
  by_cases l : i < Γ.length
  · rw [List.getElem?_append_left l] at h
    exact .inr h
  · rw [List.getElem?_append_right (by omega), List.getElem?_replicate] at h
    split at h
    · exact .inl (Option.some.inj h).symm
    · cases h
theorem map_get {ds : List PyData} {i : Nat} {s : Sl} (h : (ds.map Sl.d)[i]? = some s) : ∃ d, ds[i]? = some d ∧ s = .d d := by
  rw [List.getElem?_map] at h
  cases q : ds[i]? with
  | none => rw [q] at h; cases h
  | some d => rw [q] at h; exact ⟨d, rfl, (Option.some.inj h).symm⟩
section
variable {P : Program} {w : World} {K : PySem.W.Frag} {mg : Str → Option Value} {base : Heap}
/-- a def of data, by its body -/
theorem fn_data {x qual : Str} {st : Stmt} {f : Addr} {fd : FuncData} {N ps : List Str} {k : Nat} (F : Fun K x qual st f fd) (S : FnScope N ps (defScope st)) (sm : ∃ o, K.lookup sysModules = some o) (hl : ps.length ≤ N.length) (pre : List PyData → Prop) (g : List PyData → Out)
    (body : ∀ (cdv : Value) (A : Around) (outer : List Env) (s : Shared) (H : Hp) (E : XK) (B : Bas) (ds : List PyData), ds.length = ps.length → pre ds →
      Bod (cxOf (L2.CX P w) P w K mg base N qual (defScope st) f cdv A outer s H E) k → Exc B (cxOf (L2.CX P w) P w K mg base N qual (defScope st) f cdv A outer s H E) (fun C d _ => g ds = .up C d) →
      Gs B (cxOf (L2.CX P w) P w K mg base N qual (defScope st) f cdv A outer s H E) (defBody st) (slots0 N (ds.map .d)) { nx := fun _ => g ds = .ok .none, rt := fun d _ => g ds = .ok d }) :
    FnG P w K mg base (L2.CX P w) (k + 1) f fd ps (spF ps.length pre g) := by
  refine Fun.okG F S (fun vs H Q E h => ?_) (fun cdv A outer s H vs Q E hr hgd h => ?_)
  · obtain ⟨Hs, ds, _, d, l, _⟩ := h
    exact d.len.trans l
  · obtain ⟨Hs, ds, sub, dv, l, hp, q⟩ := h
    have tk := takes_of (X := cxOf (L2.CX P w) P w K mg base N qual (defScope st) f cdv A outer s H E) (E := E) rfl rfl rfl rfl
    have S0 : Sx ⟨H, Hs, []⟩ Hs (L2.start N vs) H (slots0 N (ds.map .d)) := by
      refine ⟨Same.refl _, Grow.refl _ _, sub, ?_, fun i t h => ?_, fun i j a es b fs h1 h2 n => ?_, tabs_nil⟩
      · show (vs.map some ++ List.replicate _ none).length = (ds.map Sl.d ++ _).length
        simp only [List.length_append, List.length_map, List.length_replicate, dv.len]
      · rcases slots_get h with rfl | h
        · exact trivial
        · obtain ⟨d, e, rfl⟩ := map_get h
          obtain ⟨v, ev, q⟩ := dvs_get dv e
          exact ⟨v, start_get ev, q⟩
      · rcases slots_get h1 with z | z
        · cases z
        · obtain ⟨d, _, z⟩ := map_get z
          cases z
    refine ⟨_, pss_W, body cdv A outer s H E ⟨H, Hs, []⟩ ds l hp ⟨⟨hr, hgd, sm⟩, S.nd, rfl, PassesOwn.leaving⟩ ⟨_, tk, fun C d Γ v Hs' σ' H' e T dvv dd hdd => ?_⟩ _ Hs _ H ⟨fun Γ Hs' σ' H' e _ T => ?_, fun d Γ v Hs' σ' H' e _ T dvv => ?_, fun _ _ _ _ z => z.elim, fun _ _ _ _ z => z.elim⟩ S0⟩
    · have z := q v Hs' H' T.fr T.sub T.gr
      rw [e] at z
      exact z dvv dd hdd
    · have z := q .non Hs' H' T.fr T.sub T.gr
      have e : g ds = .ok .none := e
      rw [e] at z
      exact z .non
    · have z := q v Hs' H' T.fr T.sub T.gr
      have e : g ds = .ok d := e
      rw [e] at z
      exact z dvv
/-- a def of a list that it changes -/
theorem fn_pail {x qual : Str} {st : Stmt} {f : Addr} {fd : FuncData} {N ps : List Str} {k n : Nat} (F : Fun K x qual st f fd) (S : FnScope N ps (defScope st)) (sm : ∃ o, K.lookup sysModules = some o) (hn : ps.length = n + 1) (pre : List PyData → List PyData → Prop) (R : List PyData → List PyData → Out → List PyData → Prop)
    (body : ∀ (cdv : Value) (A : Around) (outer : List Env) (s : Shared) (H : Hp) (E : XK) (B : Bas) (a : Addr) (ms ds : List PyData), ds.length = n → pre ms ds →
      Bod (cxOf (L2.CX P w) P w K mg base N qual (defScope st) f cdv A outer s H E) k → Exc B (cxOf (L2.CX P w) P w K mg base N qual (defScope st) f cdv A outer s H E) (fun C d Γ => ∃ ms', Γ[0]? = some (.own a ms') ∧ R ms ds (.up C d) ms') →
      Gs B (cxOf (L2.CX P w) P w K mg base N qual (defScope st) f cdv A outer s H E) (defBody st) (slots0 N (.own a ms :: ds.map .d)) { nx := fun Γ => ∃ ms', Γ[0]? = some (.own a ms') ∧ R ms ds (.ok .none) ms', rt := fun d Γ => ∃ ms', Γ[0]? = some (.own a ms') ∧ R ms ds (.ok d) ms' }) :
    FnG P w K mg base (L2.CX P w) (k + 1) f fd ps (spP n pre R) := by
  refine Fun.okG F S (fun vs H Q E h => ?_) (fun cdv A outer s H vs Q E hr hgd h => ?_)
  · obtain ⟨Hs, a, pv, ws, ms, ds, rfl, _, _, _, _, d, l, _⟩ := h
    rw [List.length_cons, d.len, l, hn]
  · obtain ⟨Hs, a, pv, ws, ms, ds, rfl, sub, na, ha, dp, dv, l, hp, q⟩ := h
    have tk := takes_of (X := cxOf (L2.CX P w) P w K mg base N qual (defScope st) f cdv A outer s H E) (E := E) rfl rfl rfl rfl
    -- all but the list
    generalize hG : (fun b => if b = a then none else H b : Hp) = G
    have Ga : G a = none := by rw [← hG]; exact if_pos rfl
    have Gb : ∀ b, b ≠ a → G b = H b := fun b hb => by rw [← hG]; exact if_neg hb
    have GH : Same G H := fun b o e => by
      by_cases z : b = a
      · rw [z, Ga] at e; cases e
      · rw [← Gb b z]; exact e
    have S0 : Sx ⟨G, Hs, []⟩ Hs (L2.start N (.ref a :: ws)) H (slots0 N (.own a ms :: ds.map .d)) := by
      refine ⟨GH, Grow.refl _ _, sub, ?_, fun i t h => ?_, fun i j b es c fs h1 h2 n => ?_, tabs_nil⟩
      · show ((V.ref a :: ws).map some ++ List.replicate _ none).length = ((Sl.own a ms :: ds.map Sl.d) ++ _).length
        simp only [List.length_append, List.length_map, List.length_replicate, List.length_cons, dv.len]
      · rcases slots_get h with rfl | h
        · exact trivial
        · cases i with
          | zero =>
            have e : t = .own a ms := (Option.some.inj h).symm
            subst e
            exact ⟨start_get rfl, Ga, na, pv, ha, dp⟩
          | succ i =>
            obtain ⟨d, e, rfl⟩ := map_get (show (ds.map Sl.d)[i]? = some t from h)
            obtain ⟨v, ev, q⟩ := dvs_get dv e
            exact ⟨v, start_get (show (V.ref a :: ws)[i + 1]? = some v from ev), q⟩
      · rcases slots_get h1 with z | z
        · cases z
        · cases i with
          | succ i =>
            obtain ⟨d, _, z⟩ := map_get (show (ds.map Sl.d)[i]? = _ from z)
            cases z
          | zero =>
            rcases slots_get h2 with z2 | z2
            · cases z2
            · cases j with
              | zero => exact absurd rfl n
              | succ j =>
                obtain ⟨d, _, z⟩ := map_get (show (ds.map Sl.d)[j]? = _ from z2)
                cases z
    have fin : ∀ {Γ : List Sl} {Hs' : Hp} {σ' : L2.St} {H' : Hp} {ms' : List PyData}, Sx ⟨G, Hs, []⟩ Hs' σ' H' Γ → Γ[0]? = some (.own a ms') → (∀ b u, H b = some u → b ≠ a → H' b = some u) ∧ Grow H Hs Hs' ∧ ∃ pv', H' a = some (.lst pv') ∧ DvAll Hs' pv' ms' := fun {Γ Hs' σ' H' ms'} T e => by
      obtain ⟨_, _, n', pv', h', d'⟩ := T.lst e
      refine ⟨fun b u eb nb => T.fr b u ((Gb b nb).trans eb), ⟨T.gr.same, fun b nb fb => ?_⟩, pv', h', d'⟩
      by_cases z : b = a
      · rw [z]
        exact n'
      · exact T.gr.off b nb (by show G b ≠ none; rw [Gb b z]; exact fb)
    refine ⟨_, pss_W, body cdv A outer s H E ⟨G, Hs, []⟩ a ms ds l hp ⟨⟨hr, hgd, sm⟩, S.nd, rfl, PassesOwn.leaving⟩ ⟨_, tk, fun C d Γ v Hs' σ' H' e T dvv dd hdd => ?_⟩ _ Hs _ H ⟨fun Γ Hs' σ' H' e _ T => ?_, fun d Γ v Hs' σ' H' e _ T dvv => ?_, fun _ _ _ _ z => z.elim, fun _ _ _ _ z => z.elim⟩ S0⟩
    · obtain ⟨ms', e0, r⟩ := e
      obtain ⟨k1, k2, pv', h', d'⟩ := fin T e0
      exact q (.up C d) ms' r v Hs' H' pv' k1 T.sub k2 h' d' dvv dd hdd
    · obtain ⟨ms', e0, r⟩ := e
      obtain ⟨k1, k2, pv', h', d'⟩ := fin T e0
      exact q (.ok .none) ms' r .non Hs' H' pv' k1 T.sub k2 h' d' .non
    · obtain ⟨ms', e0, r⟩ := e
      obtain ⟨k1, k2, pv', h', d'⟩ := fin T e0
      exact q (.ok d) ms' r v Hs' H' pv' k1 T.sub k2 h' d' dvv
end
/-! ### calls -/
section
variable {B : Bas} {X : Cx} {Γ : List Sl} {pos : Pos} {k j n : Nat} {E : DE}
theorem run_fnGS {CX : CXT} {f : Addr} {fd : FuncData} {ps : List Str} {sp : Sp} {pins : List (Addr × Obj)} {σ : L2.St} {H : Hp} {s : Shared} {Q : VK} {E : XK}
    {us : List Value} {vs : List V} (F : FnG X.prog X.w X.K X.mg X.base CX k f fd ps sp)
    (hr : Room k X.A) (hgd : X.A.guards = some []) (hb : Binds X.K fd ps [])
    (hx : PassesAt CX X σ E) (I : Inv X pins σ H s) (r : Vals vs us) (h : sp vs H Q E) :
    wpAny (model X.prog X.w) X.A (call (.ref f) us) (EP X pins σ Q) X.xe s := by
  have hl : us.length = ps.length := r.length ▸ F.len _ _ _ _ h
  have b := hb s us I.kIn (by rw [List.append_nil]; exact hl)
  rw [List.append_nil] at b
  have main := F.run X.A X.stack s H ⟨us, []⟩ us vs Q E hr hgd I.env0 b r h
  refine wpAny_call (codeAny_mono main ?_)
  intro res s' hq
  cases res with
  | error er => exact hx pins H s er s' I hq
  | ok fl =>
    cases fl with
    | ret u => exact I.after hq
    | next | brk | cont => exact False.elim hq
/-- a call by the def's name, its arguments some values -/
theorem call_W {x : Str} {p : Pos} {e : Expr} {es : List Expr} {ps : List Str} {sp : Sp} {W : WX} (F : Call X.prog X.w X.K X.mg X.base (L2.CX X.prog X.w) j x ps sp) (c : Cxt X k) (hj : j ≤ k) (hg : Gl X x) (tk : Takes X W)
    (hdb : (x == ("__debug__" : Str)) = false) (he : starEach (e :: es) X.env = (false, eval e X.env) :: starEach es X.env) (hpl : (backTo pos (starEach es X.env)).any (·.1) = false)
    {σ : L2.St} {H : Hp} {Q : VK} (h : taW X (e :: es) σ H fun vs H1 => sp vs H1 Q fun cl d H' => W cl d σ H') : teW X (.Call (.Name x p) (e :: es) [] pos) σ H Q := teI fun pins s I => by
  obtain ⟨f, fd, G, hm, hk, hb⟩ := F.ex
  refine wpAny_Call_Name_kw (ld_glob I hg hm ?_ hdb)
  refine PySem.W.callWith_K (h₀ := X.base) I.ok.mod.kin hk (thn (taE h pos pins s I) ?_) he hpl
  rintro us s1 ⟨vs, H1, I1, r, q⟩
  exact ⟨I1.kIn, run_fnGS G (c.room.mono hj) c.gd hb (fun pins H s e s' I c => tk e s' (XE.of_call I (fun _ _ _ h => h) c)) I1 r q⟩
/-- a def of data is called -/
theorem ge_call {x : Str} {p : Pos} {e : Expr} {es : List Expr} {ps : List Str} {pre : List PyData → Prop} {f : List PyData → Out} {ψ : Addr → PyData → List Sl → Prop} {φ : PyData → List Sl → Prop} (F : Call X.prog X.w X.K X.mg X.base (L2.CX X.prog X.w) j x ps (spF n pre f)) (c : Cxt X k) (hj : j ≤ k) (hg : Gl X x) (ex : Exc B X ψ)
    (h : GA B X (e :: es) Γ fun ds Γ1 => ds.length = n ∧ pre ds ∧ (f ds).to (fun d => φ d Γ1) (fun C d => ψ C d Γ1)) (hdb : (x == ("__debug__" : Str)) = false := by decide)
    (he : starEach (e :: es) X.env = (false, eval e X.env) :: starEach es X.env := by rfl) (hpl : (backTo pos (starEach es X.env)).any (·.1) = false := by rfl) : GE B X (.Call (.Name x p) (e :: es) [] pos) Γ φ := fun Hs σ H Q S g => by
  obtain ⟨W, tk, hW⟩ := ex
  refine call_W F c hj hg tk hdb he hpl (h Hs σ H _ S fun ds Γ1 vs Hs1 H1 ⟨l, hp, q⟩ s1 S1 dv => ⟨Hs1, ds, S1.sub, dv, l, hp, fun v Hs2 H2 k1 k2 k3 => ?_⟩)
  obtain ⟨s2, S2⟩ := S1.step k3 k1 k2
  cases e : f ds with
  | ok d =>
    rw [e] at q
    exact fun dd => g d Γ1 v Hs2 H2 q (s1.trans s2) S2 dd
  | up C d =>
    rw [e] at q
    exact fun dvv dd hdd => hW C d Γ1 v Hs2 σ H2 q S2 dvv dd hdd
/-- a def of a list that it changes is called: the list stands in the i-th slot -/
theorem ge_pail (i : Nat) {x y : Str} {p py : Pos} {es : List Expr} {ps : List Str} {a : Addr} {ms0 : List PyData} {pre : List PyData → List PyData → Prop} {R : List PyData → List PyData → Out → List PyData → Prop} {ψ : Addr → PyData → List Sl → Prop} {φ : PyData → List Sl → Prop} (F : Call X.prog X.w X.K X.mg X.base (L2.CX X.prog X.w) j x ps (spP n pre R)) (c : Cxt X k) (hj : j ≤ k) (hg : Gl X x) (ex : Exc B X ψ)
    (hN : X.N[i]? = some y) (hv : Vis X.env.scope y) (hΓ : Γ[i]? = some (.own a ms0))
    (h : GA B X es Γ fun ds Γ1 => ∃ ms, Γ1[i]? = some (.own a ms) ∧ ds.length = n ∧ pre ms ds ∧ ∀ o ms', R ms ds o ms' → o.to (fun d => φ d (Γ1.set i (.own a ms'))) (fun C d => ψ C d (Γ1.set i (.own a ms')))) (hdb : (x == ("__debug__" : Str)) = false := by decide)
    (hd : (y == ("__debug__" : Str)) = false := by decide) (hcd : (y == ("__classdict__" : Str)) = false := by decide)
    (he : starEach (.Name y py :: es) X.env = (false, eval (.Name y py) X.env) :: starEach es X.env := by rfl) (hpl : (backTo pos (starEach es X.env)).any (·.1) = false := by rfl) : GE B X (.Call (.Name x p) (.Name y py :: es) [] pos) Γ φ := fun Hs σ H Q S g => by
  obtain ⟨W, tk, hW⟩ := ex
  obtain ⟨e0, _⟩ := S.lst hΓ
  refine call_W F c hj hg tk hdb he hpl (pa_of (pa_cons (pe_var hN hv hd hcd) pa_W he) ⟨_, e0, h Hs σ H _ S fun ds Γ1 vs Hs1 H1 ⟨ms, g1, l, hp, q⟩ s1 S1 dv => ?_⟩)
  obtain ⟨_, f1, n1, pv, h1, d1⟩ := S1.lst g1
  refine ⟨Hs1, a, pv, vs, ms, ds, rfl, S1.sub, n1, h1, d1, dv, l, hp, fun o ms' r v Hs2 H2 pv' k1 k2 k3 h2 d2 => ?_⟩
  have q := q o ms' r
  have kk : ∀ b, B.fr b ≠ none → H1 b ≠ none := fun b hb => by
    cases z : B.fr b with
    | none => exact absurd z hb
    | some u => rw [S1.fr b u z]; exact fun z => nomatch z
  have S2 : Sx B Hs2 σ H2 (Γ1.set i (.own a ms')) := by
    refine ⟨fun b u e => k1 b u (S1.fr b u e) (fun z => by rw [z, f1] at e; cases e), S1.gr.trans (k3.mono kk), k2, by rw [List.length_set]; exact S1.len, fun j' t ej => ?_, fun j' l' b fs c' gs e1 e2 ne => ?_, tabs_pail S1.tb h1 k1 k3⟩
    · rcases get_set ej with ⟨rfl, rfl⟩ | ⟨nj, ej⟩
      · exact ⟨(S1.lst g1).1, f1, k3.off a n1 (by rw [h1]; exact fun z => nomatch z), pv', h2, d2⟩
      · refine (S1.sl j' t ej).mono k3.same fun b fs z => ?_
        subst z
        obtain ⟨_, _, nb, vb, hb, _⟩ := S1.lst ej
        exact ⟨k3.off b nb (by rw [hb]; exact fun z => nomatch z), (k1 b _ hb (S1.ap j' i b fs a ms ej g1 nj)).trans hb.symm⟩
    · rcases get_set e1 with ⟨rfl, z⟩ | ⟨m1, d1⟩
      · cases z
        rcases get_set e2 with ⟨rfl, z⟩ | ⟨m2, d2⟩
        · exact absurd rfl ne
        · exact (S1.ap l' j' c' gs a ms d2 g1 m2).symm
      · rcases get_set e2 with ⟨rfl, z⟩ | ⟨m2, d2⟩
        · cases z
          exact S1.ap j' l' b fs a ms d1 g1 m1
        · exact S1.ap j' l' b fs c' gs d1 d2 ne
  cases o with
  | ok d => exact fun dd => g d _ v Hs2 H2 q (s1.trans k3.same) S2 dd
  | up C d => exact fun dvv dd hdd => hW C d _ v Hs2 σ H2 q S2 dvv dd hdd
end
end Px
/-! zip of a list and a tuple, either way round. -/
namespace Tz
open PySem PySem.Spec PyProof.Rows L2
/-- a list (k), else a tuple; its iterator -/
def Seq2 (k : Bool) (h : Heap) (a : Addr) (xs : Array Value) : Prop := match k with
  | true => h.IsList a xs
  | false => h.IsTuple a xs
def Run2 (k : Bool) (h : Heap) (it a : Addr) (i : Nat) : Prop := match k with
  | true => h.IsListIter it a i
  | false => h.IsTupleIter it a i
theorem Seq2.but {k : Bool} {h h' : Heap} {a b : Addr} {xs : Array Value} (q : Seq2 k h a xs) (s : Heap.ExtBut b h h') (n : a ≠ b) : Seq2 k h' a xs := by
  cases k with
  | true => exact Heap.IsList.extBut q s n
  | false => exact Heap.IsTuple.extBut q s n
theorem Run2.but {k : Bool} {h h' : Heap} {it a b : Addr} {i : Nat} (q : Run2 k h it a i) (s : Heap.ExtBut b h h') (n : it ≠ b) : Run2 k h' it a i := by
  cases k with
  | true => exact Heap.IsListIter.extBut q s n
  | false => exact Heap.IsTupleIter.extBut q s n
theorem Run2.on {k : Bool} {h h' : Heap} {it a : Addr} {i : Nat} (q : Run2 k h it a i) (s : ∀ o, h.get? it = some o → h'.get? it = some o) : Run2 k h' it a i := by
  cases k with
  | true => exact Heap.IsListIter.at q s
  | false => exact Heap.IsTupleIter.at q s
theorem Run2.obj {k : Bool} {h : Heap} {it a : Addr} {i : Nat} (q : Run2 k h it a i) : ∃ o vs, h.get? it = some o ∧ o.data = .fields vs := by
  cases k with
  | true =>
    obtain ⟨o, e, _, d⟩ := q
    exact ⟨o, _, e, d⟩
  | false =>
    obtain ⟨o, e, _, d⟩ := q
    exact ⟨o, _, e, d⟩
theorem Run2.lt {k : Bool} {h : Heap} {it a : Addr} {i : Nat} (q : Run2 k h it a i) : it < h.objs.size := by
  obtain ⟨o, _, e, _⟩ := q.obj
  exact Heap.lt_size e
section
variable {prog : Program} {w : World} {A : Around} {E : Value → Shared → Prop} {s : Shared} {k kk : Bool}
theorem step_one {it a : Addr} {i : Nat} {xs : Array Value} {x : Value} {Q : Value → Shared → Prop} (r : Run2 k s.heap it a i) (q : Seq2 k s.heap a xs) (e : xs[i]? = some x)
    (g : ∀ h', Run2 k h' it a (i + 1) → Heap.SameBut it s.heap h' → Q x { s with heap := h' }) : wpAny (model prog w) A (Builtin.SmallTypes.nextOf (.ref it)) Q E s := by
  cases k with
  | true => exact wpAny_nextOf_list_item r q e g
  | false => exact RZ.nextOf_tuple_item r q e g
theorem step_end {it a : Addr} {i : Nat} {xs : Array Value} {Q : Value → Shared → Prop} (hh : A.handled = none) (r : Run2 k s.heap it a i) (q : Seq2 k s.heap a xs) (e : xs[i]? = none)
    (g : ∀ h' x, Heap.ExtBut it s.heap h' → (∃ o, h'.get? x = some o ∧ o.cls = .type "StopIteration") → E (.ref x) { s with heap := h' }) : wpAny (model prog w) A (Builtin.SmallTypes.nextOf (.ref it)) Q E s := by
  cases k with
  | true => exact wpAny_nextOf_list_end hh r q e g
  | false => exact RZ.nextOf_tuple_end hh r q e g
/-- the zip's own things: its object, the pair of its iterators, its own pair -/
structure Own3 (h : Heap) (z ti tp : Addr) (f : Value) (i1 i2 : Addr) (a b : Value) : Prop where
  zip : IsZip h z ti tp f
  its : IsPair h ti (.ref i1) (.ref i2)
  pr : IsPair h tp a b
theorem zip_item {z ti tp i1 i2 l1 l2 : Addr} {j : Nat} {xs ys : Array Value} {x y a b : Value} {Q : Value → Shared → Prop} (P : ZipApart z ti tp i1 i2 l1 l2) (O : Own3 s.heap z ti tp .none i1 i2 a b)
    (r1 : Run2 k s.heap i1 l1 j) (r2 : Run2 kk s.heap i2 l2 j) (q1 : Seq2 k s.heap l1 xs) (q2 : Seq2 kk s.heap l2 ys) (ex : xs[j]? = some x) (ey : ys[j]? = some y)
    (g : ∀ h', IsZip h' z ti tp (rawInt s.heap.objs.size) → IsPair h' tp x y → Run2 k h' i1 l1 (j + 1) → Run2 kk h' i2 l2 (j + 1) → IsPair h' s.heap.objs.size x y → h'.objs.size = s.heap.objs.size + 1 →
      (∀ c o, c ≠ z → c ≠ tp → c ≠ i1 → c ≠ i2 → s.heap.get? c = some o → h'.get? c = some o) → Q (.ref s.heap.objs.size) { s with heap := h' }) :
    wpAny (model prog w) A (Builtin.«zip.__next__» ⟨[.ref z], []⟩) (fun fin s' => ∃ v, fin = .done (.ret v) ∧ Q v s') E s := by
  have Z := O.zip
  show wpAny _ _ (field (.ref z) 2 >>= fun _ => _) _ _ _
  refine wpAny_bind (wpAny_field (x := .bool false) Z rfl rfl ?_)
  show wpAny _ _ (field (.ref z) 3 >>= fun _ => _) _ _ _
  refine wpAny_bind (wpAny_field (x := .ref ti) Z rfl rfl (wpAny_bind (wpAny_seqItems O.its rfl ?_)))
  show wpAny _ _ (Builtin.SmallTypes.ownedTupleIsFree (.ref z) >>= fun _ => _) _ _ _
  refine wpAny_bind ?_
  unfold Builtin.SmallTypes.ownedTupleIsFree
  refine wpAny_bind (wpAny_field (x := .none) Z rfl rfl (wpAny_pure ?_))
  simp only [if_true]
  refine wpAny_bind (wpAny_rule (wpAny_bind (wpAny_field (x := .ref tp) Z rfl rfl ?_)))
  refine wpAny_bind (wpAny_setField_rec Z (by simp) fun ha (za : IsZip ha z ti tp .ellipsis) sa => ?_)
  refine wpAny_bind ?_
  simp only [List.zipIdx_cons, List.zipIdx_nil, List.forIn_cons, List.forIn_nil]
  -- the first one's item
  refine wpAny_bind (wpAny_bind (wpAny_onRaise ?_))
  show wpAny _ _ (Builtin.SmallTypes.nextOf (.ref i1) >>= fun _ => _) _ _ _
  refine wpAny_bind (step_one (r1.but sa.extBut P.i1z) (q1.but sa.extBut P.l1z) ex fun hb rb sb => wpAny_pure ?_)
  have pb : IsPair hb tp a b := sb.extBut _ _ P.TOi1 (sa.extBut _ _ P.TOz O.pr)
  refine wpAny_bind (wpAny_seqItems pb rfl (wpAny_bind (wpAny_updateSeq_pair pb fun hc (pc : IsPair hc tp x b) sc => wpAny_bind (wpAny_letGo (wpAny_pure ?_)))))
  -- the second one's item
  refine wpAny_bind (wpAny_bind (wpAny_onRaise ?_))
  show wpAny _ _ (Builtin.SmallTypes.nextOf (.ref i2) >>= fun _ => _) _ _ _
  have r2c : Run2 kk hc i2 l2 j := ((r2.but sa.extBut P.i2z).but sb.extBut P.i12.symm).but sc.extBut P.TOi2.symm
  have q2c : Seq2 kk hc l2 ys := ((q2.but sa.extBut P.l2z).but sb.extBut P.l2i1).but sc.extBut P.l2TO
  refine wpAny_bind (step_one r2c q2c ey fun hd rd sd => wpAny_pure ?_)
  have pd : IsPair hd tp x b := sd.extBut _ _ P.TOi2 pc
  refine wpAny_bind (wpAny_seqItems pd rfl (wpAny_bind (wpAny_updateSeq_pair pd fun he (pe : IsPair he tp x y) se => wpAny_bind (wpAny_letGo (wpAny_pure (wpAny_pure ?_))))))
  -- the pair is handed out
  refine wpAny_bind (wpAny_seqItems pe rfl (wpAny_bind (wpAny_newTuple ?_)))
  have size : he.objs.size = s.heap.objs.size := by rw [se.1, sd.1, sc.1, sb.1, sa.1]
  have ze : IsZip he z ti tp .ellipsis := se.extBut _ _ P.TOz.symm (sd.extBut _ _ P.i2z.symm (sc.extBut _ _ P.TOz.symm (sb.extBut _ _ P.i1z.symm za)))
  have keep : ∀ c o, c ≠ z → c ≠ tp → c ≠ i1 → c ≠ i2 → s.heap.get? c = some o → he.get? c = some o := fun c o n1 n2 n3 n4 e => se.extBut _ _ n2 (sd.extBut _ _ n4 (sc.extBut _ _ n2 (sb.extBut _ _ n3 (sa.extBut _ _ n1 e))))
  have r1e : Run2 k he i1 l1 (j + 1) := ((rb.but sc.extBut P.TOi1.symm).but sd.extBut P.i12).but se.extBut P.TOi1.symm
  have r2e : Run2 kk he i2 l2 (j + 1) := rd.but se.extBut P.TOi2.symm
  have zlt : z < he.objs.size := Heap.lt_size ze
  show wpAny _ _ (Builtin.SmallTypes.ownedTupleHandOut (.ref z) (.ref he.objs.size) >>= fun _ => _) _ _ _
  refine wpAny_bind ?_
  unfold Builtin.SmallTypes.ownedTupleHandOut
  have zf : IsZip (he.push { cls := .type "tuple", data := .seq #[x, y] }) z ti tp .ellipsis := Heap.get?_push_of_some _ ze
  refine wpAny_bind (wpAny_setField_rec zf (by simp) fun hg (zg : IsZip hg z ti tp (rawInt he.objs.size)) sg => ?_)
  refine wpAny_setField_rec zg (by simp) fun hk (zk : IsZip hk z ti tp (rawInt he.objs.size)) sk => ?_
  have late : ∀ c o, c ≠ z → he.get? c = some o → hk.get? c = some o := fun c o n e => sk.extBut _ _ n (sg.extBut _ _ n (Heap.get?_push_of_some _ e))
  have pk : IsPair hk he.objs.size x y := sk.extBut _ _ (Nat.ne_of_gt zlt) (sg.extBut _ _ (Nat.ne_of_gt zlt) (Heap.get?_push_size _ rfl))
  have size2 : hk.objs.size = he.objs.size + 1 := by rw [sk.1, sg.1, Heap.size_push]
  rw [size] at zk pk size2
  refine wpAny_pure ⟨_, rfl, ?_⟩
  show Q (.ref he.objs.size) _
  rw [size]
  exact g hk zk (late _ _ P.TOz pe) (r1e.on fun o e => late _ o P.i1z e) (r2e.on fun o e => late _ o P.i2z e) pk size2 fun c o n1 n2 n3 n4 e => late c o n1 (keep c o n1 n2 n3 n4 e)
theorem zip_done {z ti tp i1 i2 l1 l2 : Addr} {j : Nat} {xs ys : Array Value} {a b : Value} {Q : Fin → Shared → Prop} (hh : A.handled = none) (P : ZipApart z ti tp i1 i2 l1 l2) (O : Own3 s.heap z ti tp .none i1 i2 a b)
    (r1 : Run2 k s.heap i1 l1 j) (r2 : Run2 kk s.heap i2 l2 j) (q1 : Seq2 k s.heap l1 xs) (q2 : Seq2 kk s.heap l2 ys) (over : xs[j]? = none ∨ ys[j]? = none)
    (g : ∀ h' e, (∀ c o, c ≠ z → c ≠ tp → c ≠ i1 → c ≠ i2 → s.heap.get? c = some o → h'.get? c = some o) → (∃ o, h'.get? e = some o ∧ o.cls = .type "StopIteration") → E (.ref e) { s with heap := h' }) :
    wpAny (model prog w) A (Builtin.«zip.__next__» ⟨[.ref z], []⟩) Q E s := by
  have Z := O.zip
  show wpAny _ _ (field (.ref z) 2 >>= fun _ => _) _ _ _
  refine wpAny_bind (wpAny_field (x := .bool false) Z rfl rfl ?_)
  show wpAny _ _ (field (.ref z) 3 >>= fun _ => _) _ _ _
  refine wpAny_bind (wpAny_field (x := .ref ti) Z rfl rfl (wpAny_bind (wpAny_seqItems O.its rfl ?_)))
  show wpAny _ _ (Builtin.SmallTypes.ownedTupleIsFree (.ref z) >>= fun _ => _) _ _ _
  refine wpAny_bind ?_
  unfold Builtin.SmallTypes.ownedTupleIsFree
  refine wpAny_bind (wpAny_field (x := .none) Z rfl rfl (wpAny_pure ?_))
  simp only [if_true]
  refine wpAny_bind (wpAny_rule (wpAny_bind (wpAny_field (x := .ref tp) Z rfl rfl ?_)))
  refine wpAny_bind (wpAny_setField_rec Z (by simp) fun ha (za : IsZip ha z ti tp .ellipsis) sa => ?_)
  refine wpAny_bind ?_
  simp only [List.zipIdx_cons, List.zipIdx_nil, List.forIn_cons, List.forIn_nil]
  refine wpAny_bind (wpAny_bind (wpAny_onRaise ?_))
  show wpAny _ _ (Builtin.SmallTypes.nextOf (.ref i1) >>= fun _ => _) _ _ _
  have r1a := r1.but sa.extBut P.i1z
  have q1a := q1.but sa.extBut P.l1z
  cases ex : xs[j]? with
  | none =>
    refine wpAny_bind (step_end hh r1a q1a ex fun hb e sb ⟨oe, he, ce⟩ => ?_)
    have zb : IsZip hb z ti tp .ellipsis := sb _ _ P.i1z.symm za
    have ne : e ≠ z := by
      rintro rfl
      rw [zb] at he
      cases he
      simp at ce
    exact wpAny_setField_rec zb (by simp) fun hc _ sc => g hc e (fun c o n1 _ n3 _ x => sc.extBut _ _ n1 (sb _ _ n3 (sa.extBut _ _ n1 x))) ⟨oe, sc.extBut _ _ ne he, ce⟩
  | some x =>
    have ey : ys[j]? = none := over.resolve_left fun z => by rw [ex] at z; cases z
    refine wpAny_bind (step_one r1a q1a ex fun hb rb sb => wpAny_pure ?_)
    have pb : IsPair hb tp a b := sb.extBut _ _ P.TOi1 (sa.extBut _ _ P.TOz O.pr)
    refine wpAny_bind (wpAny_seqItems pb rfl (wpAny_bind (wpAny_updateSeq_pair pb fun hc _ sc => wpAny_bind (wpAny_letGo (wpAny_pure ?_)))))
    refine wpAny_bind (wpAny_bind (wpAny_onRaise ?_))
    show wpAny _ _ (Builtin.SmallTypes.nextOf (.ref i2) >>= fun _ => _) _ _ _
    have r2c : Run2 kk hc i2 l2 j := ((r2.but sa.extBut P.i2z).but sb.extBut P.i12.symm).but sc.extBut P.TOi2.symm
    have q2c : Seq2 kk hc l2 ys := ((q2.but sa.extBut P.l2z).but sb.extBut P.l2i1).but sc.extBut P.l2TO
    refine wpAny_bind (step_end hh r2c q2c ey fun hd e sd ⟨oe, he, ce⟩ => ?_)
    have zd : IsZip hd z ti tp .ellipsis := sd _ _ P.i2z.symm (sc.extBut _ _ P.TOz.symm (sb.extBut _ _ P.i1z.symm za))
    have ne : e ≠ z := by
      rintro rfl
      rw [zd] at he
      cases he
      simp at ce
    exact wpAny_setField_rec zd (by simp) fun hf _ sf => g hf e (fun c o n1 n2 n3 n4 x => sf.extBut _ _ n1 (sd _ _ n4 (sc.extBut _ _ n2 (sb.extBut _ _ n3 (sa.extBut _ _ n1 x))))) ⟨oe, sf.extBut _ _ ne he, ce⟩
theorem next_one {z ti tp i1 i2 l1 l2 : Addr} {j : Nat} {xs ys : Array Value} {x y a b : Value} {Q : Option Value → Shared → Prop} (P : ZipApart z ti tp i1 i2 l1 l2) (O : Own3 s.heap z ti tp .none i1 i2 a b)
    (r1 : Run2 k s.heap i1 l1 j) (r2 : Run2 kk s.heap i2 l2 j) (q1 : Seq2 k s.heap l1 xs) (q2 : Seq2 kk s.heap l2 ys) (ex : xs[j]? = some x) (ey : ys[j]? = some y)
    (g : ∀ h', IsZip h' z ti tp (rawInt s.heap.objs.size) → IsPair h' tp x y → Run2 k h' i1 l1 (j + 1) → Run2 kk h' i2 l2 (j + 1) → IsPair h' s.heap.objs.size x y → h'.objs.size = s.heap.objs.size + 1 →
      (∀ c o, c ≠ z → c ≠ tp → c ≠ i1 → c ≠ i2 → s.heap.get? c = some o → h'.get? c = some o) → Q (some (.ref s.heap.objs.size)) { s with heap := h' }) : wpAny (model prog w) A (pyNext (.ref z)) Q E s := by
  have T : s.TypeIs (.ref z) "zip" := ⟨_, O.zip, rfl⟩
  have one := zip_item (prog := prog) (w := w) (A := A.in1) (E := fun _ _ => False) (Q := fun v s' => v = .ref s.heap.objs.size ∧ Q (some v) s') P O r1 r2 q1 q2 ex ey fun h' a1 a2 a3 a4 a5 a6 a7 => ⟨rfl, g h' a1 a2 a3 a4 a5 a6 a7⟩
  unfold pyNext
  refine wpAny_bind (wpAny_attempt (wpAny_callSpecial?_slot (name := Str.ofString "__next__") T F.slot_zip_next (wpAny_call_entry F.slot_zip_next T F.entry_zip_next (zip_item P O r1 r2 q1 q2 ex ey fun h' a1 a2 a3 a4 a5 a6 a7 => ?_) (F.args_zip_next_1 _))))
  exact wpAny_pure (g h' a1 a2 a3 a4 a5 a6 a7)
theorem next_none {z ti tp i1 i2 l1 l2 : Addr} {j : Nat} {xs ys : Array Value} {a b : Value} {Q : Option Value → Shared → Prop} (hh : A.handled = none) (P : ZipApart z ti tp i1 i2 l1 l2) (O : Own3 s.heap z ti tp .none i1 i2 a b)
    (r1 : Run2 k s.heap i1 l1 j) (r2 : Run2 kk s.heap i2 l2 j) (q1 : Seq2 k s.heap l1 xs) (q2 : Seq2 kk s.heap l2 ys) (over : xs[j]? = none ∨ ys[j]? = none)
    (g : ∀ h', (∀ c o, c ≠ z → c ≠ tp → c ≠ i1 → c ≠ i2 → s.heap.get? c = some o → h'.get? c = some o) → Q none { s with heap := h' }) : wpAny (model prog w) A (pyNext (.ref z)) Q E s := by
  have T : s.TypeIs (.ref z) "zip" := ⟨_, O.zip, rfl⟩
  unfold pyNext
  refine wpAny_bind (wpAny_attempt (wpAny_callSpecial?_slot (name := Str.ofString "__next__") T F.slot_zip_next (wpAny_call_entry F.slot_zip_next T F.entry_zip_next (zip_done hh P O r1 r2 q1 q2 over fun h' e keep ⟨o, ho, ce⟩ => ?_) (F.args_zip_next_1 _))))
  exact wpAny_bind (wpAny_isInstance (T := "StopIteration") (b := true) ⟨o, ho, ce⟩ isSubtype_stop (wpAny_pure (g h' keep)))
end
/-! ### made -/
def iterO (k : Bool) (a : Addr) : Obj := { cls := .type (if k = true then "list_iterator" else "tuple_iterator"), data := .fields #[.ref a, .int 0 0] }
def h1 (k : Bool) (h : Heap) (a : Addr) : Heap := h.push (iterO k a)
def h2 (k kk : Bool) (h : Heap) (a b : Addr) : Heap := (h1 k h a).push (iterO kk b)
def h3 (k kk : Bool) (h : Heap) (a b : Addr) : Heap := (h2 k kk h a b).push { cls := .type "tuple", data := .seq #[.ref h.objs.size, .ref (h1 k h a).objs.size] }
def h4 (k kk : Bool) (h : Heap) (a b : Addr) : Heap := (h3 k kk h a b).push { cls := .type "tuple", data := .seq #[.none, .none] }
def h5 (k kk : Bool) (h : Heap) (a b : Addr) : Heap := (h4 k kk h a b).push { cls := .type "zip", data := .fields #[.none, .bool false, .bool false, .ref (h2 k kk h a b).objs.size, .ref (h3 k kk h a b).objs.size] }
theorem new_lt (a b : Addr) (xs ys : Array Value) : Meets (Builtin.«zip.__new__» ⟨[.type "zip", .ref a, .ref b], []⟩) (fun _ R s => s.heap.IsList a xs ∧ s.heap.IsTuple b ys ∧ R (.ok (.ret (.ref (h4 true false s.heap a b).objs.size))) { s with heap := h5 true false s.heap a b }) := .of_wp fun prog w A R s h => by
  obtain ⟨hp, gs, dr, tk, os⟩ := s
  obtain ⟨q1, q2, h⟩ := h
  have sub := sub_zip
  have q1 : Heap.IsList (Shared.heap ⟨hp, gs, dr, tk, os⟩) a xs := q1
  have q2 : Heap.IsTuple (Shared.heap ⟨hp.push { cls := .type "list_iterator", data := .fields #[.ref a, .int 0 0] }, gs, dr, tk, os⟩) b ys := Heap.IsTuple.push q2 _
  wp_walk using wpAny_pyIter_list q1, wpAny_pyIter_tuple q2
  exact ⟨_, rfl, h⟩
theorem new_tl (a b : Addr) (xs ys : Array Value) : Meets (Builtin.«zip.__new__» ⟨[.type "zip", .ref a, .ref b], []⟩) (fun _ R s => s.heap.IsTuple a xs ∧ s.heap.IsList b ys ∧ R (.ok (.ret (.ref (h4 false true s.heap a b).objs.size))) { s with heap := h5 false true s.heap a b }) := .of_wp fun prog w A R s h => by
  obtain ⟨hp, gs, dr, tk, os⟩ := s
  obtain ⟨q1, q2, h⟩ := h
  have sub := sub_zip
  have q1 : Heap.IsTuple (Shared.heap ⟨hp, gs, dr, tk, os⟩) a xs := q1
  have q2 : Heap.IsList (Shared.heap ⟨hp.push { cls := .type "tuple_iterator", data := .fields #[.ref a, .int 0 0] }, gs, dr, tk, os⟩) b ys := Heap.IsList.push q2 _
  wp_walk using wpAny_pyIter_tuple q1, wpAny_pyIter_list q2
  exact ⟨_, rfl, h⟩
section
variable {prog : Program} {w : World} {A : Around} {E : Value → Shared → Prop} {s : Shared}
theorem made (k kk : Bool) (h : Heap) (a b : Addr) : (h4 k kk h a b).objs.size = h.objs.size + 4 ∧ IsZip (h5 k kk h a b) (h.objs.size + 4) (h.objs.size + 2) (h.objs.size + 3) .none ∧ IsPair (h5 k kk h a b) (h.objs.size + 2) (.ref h.objs.size) (.ref (h.objs.size + 1)) ∧
    IsPair (h5 k kk h a b) (h.objs.size + 3) .none .none ∧ Run2 k (h5 k kk h a b) h.objs.size a 0 ∧ Run2 kk (h5 k kk h a b) (h.objs.size + 1) b 0 ∧ ∀ c o, h.get? c = some o → (h5 k kk h a b).get? c = some o := by
  have s1 : (h1 k h a).objs.size = h.objs.size + 1 := Heap.size_push ..
  have s2 : (h2 k kk h a b).objs.size = h.objs.size + 2 := (Heap.size_push ..).trans (by rw [s1])
  have s3 : (h3 k kk h a b).objs.size = h.objs.size + 3 := (Heap.size_push ..).trans (by rw [s2])
  have s4 : (h4 k kk h a b).objs.size = h.objs.size + 4 := (Heap.size_push ..).trans (by rw [s3])
  have u1 : ∀ c o, h.get? c = some o → (h1 k h a).get? c = some o := fun c o e => Heap.get?_push_of_some _ e
  have u2 : ∀ c o, (h1 k h a).get? c = some o → (h2 k kk h a b).get? c = some o := fun c o e => Heap.get?_push_of_some _ e
  have u3 : ∀ c o, (h2 k kk h a b).get? c = some o → (h3 k kk h a b).get? c = some o := fun c o e => Heap.get?_push_of_some _ e
  have u4 : ∀ c o, (h3 k kk h a b).get? c = some o → (h4 k kk h a b).get? c = some o := fun c o e => Heap.get?_push_of_some _ e
  have u5 : ∀ c o, (h4 k kk h a b).get? c = some o → (h5 k kk h a b).get? c = some o := fun c o e => Heap.get?_push_of_some _ e
  have g1 : (h1 k h a).get? h.objs.size = some (iterO k a) := Heap.get?_push_size _ rfl
  have g2 : (h2 k kk h a b).get? (h.objs.size + 1) = some (iterO kk b) := by rw [← s1]; exact Heap.get?_push_size _ rfl
  have g3 : IsPair (h3 k kk h a b) (h.objs.size + 2) (.ref h.objs.size) (.ref (h.objs.size + 1)) := by
    rw [← s2, ← s1]
    exact Heap.get?_push_size _ rfl
  have g4 : IsPair (h4 k kk h a b) (h.objs.size + 3) .none .none := by
    rw [← s3]
    exact Heap.get?_push_size _ rfl
  have g5 : IsZip (h5 k kk h a b) (h.objs.size + 4) (h.objs.size + 2) (h.objs.size + 3) .none := by
    rw [← s4, ← s3, ← s2]
    exact Heap.get?_push_size _ rfl
  have r1 : (h5 k kk h a b).get? h.objs.size = some (iterO k a) := u5 _ _ (u4 _ _ (u3 _ _ (u2 _ _ g1)))
  have r2 : (h5 k kk h a b).get? (h.objs.size + 1) = some (iterO kk b) := u5 _ _ (u4 _ _ (u3 _ _ g2))
  refine ⟨s4, g5, u5 _ _ (u4 _ _ g3), u5 _ _ g4, ?_, ?_, fun c o e => u5 _ _ (u4 _ _ (u3 _ _ (u2 _ _ (u1 _ _ e))))⟩
  · cases k with
    | true => exact ⟨_, r1, rfl, rfl⟩
    | false => exact ⟨_, r1, rfl, rfl⟩
  · cases kk with
    | true => exact ⟨_, r2, rfl, rfl⟩
    | false => exact ⟨_, r2, rfl, rfl⟩
theorem call_lt {a b : Addr} {xs ys : Array Value} {Q : Value → Shared → Prop} (q1 : s.heap.IsList a xs) (q2 : s.heap.IsTuple b ys) (g : Q (.ref (h4 true false s.heap a b).objs.size) { s with heap := h5 true false s.heap a b }) : wpAny (model prog w) A (call (.type "zip") [.ref a, .ref b]) Q E s :=
  callType_new F.called_zip (by decide) (F.typeCall_zip_2 _ _) (F.newCall_zip_2 _ _) (fun o => F.args_object_init_3 o _ _) F.entry_zip_new (new_lt a b xs ys) ⟨q1, q2, ⟨⟨_, (made true false s.heap a b).1 ▸ (made true false s.heap a b).2.1, rfl⟩, g⟩⟩
theorem call_tl {a b : Addr} {xs ys : Array Value} {Q : Value → Shared → Prop} (q1 : s.heap.IsTuple a xs) (q2 : s.heap.IsList b ys) (g : Q (.ref (h4 false true s.heap a b).objs.size) { s with heap := h5 false true s.heap a b }) : wpAny (model prog w) A (call (.type "zip") [.ref a, .ref b]) Q E s :=
  callType_new F.called_zip (by decide) (F.typeCall_zip_2 _ _) (F.newCall_zip_2 _ _) (fun o => F.args_object_init_3 o _ _) F.entry_zip_new (new_tl a b xs ys) ⟨q1, q2, ⟨⟨_, (made false true s.heap a b).1 ▸ (made false true s.heap a b).2.1, rfl⟩, g⟩⟩
end
end Tz
namespace Tz
open PySem PySem.Spec PyProof.Rows L2
def SqX (k : Bool) (K : PySem.W.Frag) (H : Hp) (a : Addr) (xs : List V) : Prop := match k with
  | true => SqL K H a xs
  | false => SqT K H a xs
/-- the two as they stand at each turn, the items in new pairs -/
def Itm (K : PySem.W.Frag) (k kk : Bool) (a b : Addr) : It :=
  ⟨fun i H => ∃ (us vs : List V) (x y : V), SqX k K H a us ∧ SqX kk K H b vs ∧ us[i]? = some x ∧ vs[i]? = some y,
    fun i H v G => ∃ c x y, v = .ref c ∧ H c = none ∧ G = upd H c (.tup [x, y]) ∧ (∀ us, SqX k K H a us → us[i]? = some x) ∧ ∀ vs, SqX kk K H b vs → vs[i]? = some y,
    fun i H => ∃ us vs : List V, SqX k K H a us ∧ SqX kk K H b vs ∧ (us.length ≤ i ∨ vs.length ≤ i)⟩
section
variable {X : Cx} {pins : List (Addr × Obj)} {σ : L2.St} {H : Hp} {s : Shared} {k kk : Bool}
theorem seq_at {a : Addr} {us : List V} (I : Inv X pins σ H s) (q : SqX k X.K H a us) : ∃ its : List Value, Vals us its ∧ Seq2 k s.heap a its.toArray ∧ a < s.heap.objs.size := by
  cases k with
  | true =>
    obtain ⟨its, r, p, _⟩ := I.list q
    exact ⟨its, r, p.isList, p.lt⟩
  | false =>
    obtain ⟨its, r, p, _⟩ := I.tuple q
    obtain ⟨o, e, _⟩ := id p
    exact ⟨its, r, p, Heap.lt_size e⟩
theorem seq_same {a : Addr} {us vs : List V} (I : Inv X pins σ H s) (q : SqX k X.K H a us) (r : SqX k X.K H a vs) : us = vs := by
  cases k with
  | true => exact I.list_inj q r
  | false => exact I.tuple_inj q r
end
end Tz
/-! zip of two sequences of any kinds, walked. -/
namespace Tz
open PySem PySem.Spec PyProof.Rows L2
def Stands (k kk : Bool) (z ti tp i1 i2 a b : Addr) (i : Nat) (h : Heap) : Prop := IsZip h z ti tp .none ∧ IsPair h ti (.ref i1) (.ref i2) ∧ (∃ x y, IsPair h tp x y) ∧ Run2 k h i1 a i ∧ Run2 kk h i2 b i
theorem five {z ti tp i1 i2 c : Addr} (h : c ∈ [z, ti, tp, i1, i2]) : c = z ∨ c = ti ∨ c = tp ∨ c = i1 ∨ c = i2 := by simpa using h
theorem turn_mixed {P : Program} {w : World} {K : PySem.W.Frag} {elts : List Expr} {n : Nat} {tpos : Pos} {k kk : Bool} {a b z ti tp i1 i2 : Addr} (D : ZipApart z ti tp i1 i2 a b) :
    Turn P w K (.Tuple elts n tpos) (Itm K k kk a b) [z, ti, tp, i1, i2] z (Stands k kk z ti tp i1 i2 a b) where
  mem := .head _
  obj := by
    rintro i h ⟨e1, e2, ⟨x, y, e3⟩, r1, r2⟩ c hc
    obtain ⟨o1, v1, g1, d1⟩ := r1.obj
    obtain ⟨o2, v2, g2, d2⟩ := r2.obj
    rcases five hc with rfl | rfl | rfl | rfl | rfl
    · exact ⟨_, e1, fun _ q => nomatch q⟩
    · exact ⟨_, e2, fun _ q => nomatch q⟩
    · exact ⟨_, e3, fun _ q => nomatch q⟩
    · exact ⟨o1, g1, fun v q => nomatch d1.symm.trans q⟩
    · exact ⟨o2, g2, fun v q => nomatch d2.symm.trans q⟩
  keep := by
    rintro i h h' ⟨e1, e2, ⟨x, y, e3⟩, r1, r2⟩ kp
    exact ⟨kp z (by simp) _ e1, kp ti (by simp) _ e2, ⟨x, y, kp tp (by simp) _ e3⟩, r1.on fun o q => kp i1 (by simp) o q, r2.on fun o q => kp i2 (by simp) o q⟩
  item := by
    rintro X hP hw hK hc i pins s σ H E I hf ⟨e1, e2, ⟨x0, y0, e3⟩, r1, r2⟩ ⟨us, vs, x, y, qa, qb, hx, hy⟩
    subst hP hw hK
    obtain ⟨ia, va, sa, la⟩ := seq_at I qa
    obtain ⟨ib, vb, sb, lb⟩ := seq_at I qb
    obtain ⟨u, hu, ru⟩ := va.get hx
    obtain ⟨u2, hu2, ru2⟩ := vb.get hy
    have zl : z < s.heap.objs.size := Heap.lt_size e1
    refine next_one D ⟨e1, e2, e3⟩ r1 r2 sa sb (x := u) (y := u2) (by simpa using hu) (by simpa using hu2) fun h' z' p' r1' r2' pT _ kp => ⟨_, rfl, wpAny_letOwnedTupleGo_zip (s := { s with heap := h' }) z' fun g zg but => ?_⟩
    have pT2 : IsPair g s.heap.objs.size u u2 := (but.2 _ (Nat.ne_of_gt zl)).trans pT
    have fresh : ObjOk X.prog X.w (upd H s.heap.objs.size (.tup [x, y])) g s.heap.objs.size (.tup [x, y]) := ⟨by show 2 ≤ sizeLine; decide, [u, u2], .cons ru (.cons ru2 .nil), ⟨_, pT2, rfl, _, rfl⟩⟩
    have all : ∀ c o, c ∉ [z, ti, tp, i1, i2] → s.heap.get? c = some o → g.get? c = some o := fun c o nc q => (but.2 c fun q' => nc (by simp [q'])).trans (kp c o (fun q' => nc (by simp [q'])) (fun q' => nc (by simp [q'])) (fun q' => nc (by simp [q'])) (fun q' => nc (by simp [q'])) q)
    have J : Inv X pins σ (upd H s.heap.objs.size (.tup [x, y])) { s with heap := g } := I.turnedNew (t' := s.toks) (ch := [z, ti, tp, i1, i2]) all hf (Nat.le_refl _) fresh
    refine ⟨.ref s.heap.objs.size, _, J, rfl, ⟨_, x, y, rfl, I.hok.fresh (Nat.le_refl _), rfl, fun l hl => by rw [seq_same I hl qa]; exact hx, fun l hl => by rw [seq_same I hl qb]; exact hy⟩, ⟨zg, ?_, ⟨u, u2, ?_⟩, ?_, ?_⟩, fun c hc => ?_⟩
    · exact (but.2 _ D.TIz).trans (kp _ _ D.TIz D.TITO D.TIi1 D.TIi2 e2)
    · exact (but.2 _ D.TOz).trans p'
    · exact r1'.on fun o q => (but.2 _ D.i1z).trans q
    · exact r2'.on fun o q => (but.2 _ D.i2z).trans q
    · have lt : c < s.heap.objs.size := by
        rcases five hc with q | q | q | q | q <;> rw [q]
        · exact zl
        · exact Heap.lt_size e2
        · exact Heap.lt_size e3
        · exact r1.lt
        · exact r2.lt
      exact (upd_ne (Nat.ne_of_lt lt)).trans (hf c hc).1
  done := by
    rintro X hP hw hK hc i pins s σ H E I hf ⟨e1, e2, ⟨x0, y0, e3⟩, r1, r2⟩ ⟨us, vs, qa, qb, over⟩
    subst hP hw hK
    obtain ⟨ia, va, sa, la⟩ := seq_at I qa
    obtain ⟨ib, vb, sb, lb⟩ := seq_at I qb
    have n1 := va.length
    have n2 := vb.length
    have ov : ia.toArray[i]? = none ∨ ib.toArray[i]? = none := over.imp (fun q => by simp; omega) fun q => by simp; omega
    exact next_none (I.ok.hd hc) D ⟨e1, e2, e3⟩ r1 r2 sa sb ov fun h' kp => ⟨rfl, I.turnedL (t' := s.toks) (ch := [z, ti, tp, i1, i2]) (fun c o nc q =>
      kp c o (fun q' => nc (by simp [q'])) (fun q' => nc (by simp [q'])) (fun q' => nc (by simp [q'])) (fun q' => nc (by simp [q'])) q) hf⟩
  self := fun A i s Q E st g => wpAny_pyIter_zip st.1 g
/-- zip(e, f) is walked: k, kk tell whether the two are lists -/
def iZipM (K : PySem.W.Frag) (ta : TA) : TI := fun σ H R => ta σ H fun ws G => ∃ (k kk : Bool) (a b : Addr) (us vs : List V), ws = [.ref a, .ref b] ∧ k ≠ kk ∧ SqX k K G a us ∧ SqX kk K G b vs ∧ R (Itm K k kk a b) G
theorem pi_zipM {X : Cx} {e f : Expr} {ta : TA} {p pos tpos : Pos} {elts : List Expr} {n : Nat} (hg : Gl X "zip") (hm : X.mg "zip" = none) (ha : PA X [e, f] ta) (hs : starEach [e, f] X.env = (false, eval e X.env) :: starEach [f] X.env) (hpl : (backTo pos (starEach [f] X.env)).any (·.1) = false) :
    PI X (.Tuple elts n tpos) (.Call (.Name "zip" p) [e, f] [] pos) (iZipM X.K ta) := by
  refine ⟨fun pins s σ H R I h => ?_⟩
  refine Call_ (ld_blt I hg hm PyProof.Rows.boot_zip (PyProof.Rows.callWith_type1 (thn (ha.run pos pins s σ H _ I h) fun us1 s1 ⟨ws, G, J, r, k, kk, a, b, us, vs, ew, ne, qa, qb, q⟩ => ?_) hs hpl))
  subst ew
  cases r with
  | cons ra rr =>
  cases rr with
  | cons rb rr =>
  cases rr
  cases ra
  cases rb
  obtain ⟨ia, va, sa, la⟩ := seq_at J qa
  obtain ⟨ib, vb, sb, lb⟩ := seq_at J qb
  obtain ⟨m1, m2, m3, m4, m5, m6, m7⟩ := made k kk s1.heap a b
  have J2 : Inv X pins σ G { s1 with heap := h5 k kk s1.heap a b } := J.kept (t' := s1.toks) m7
  have fr : ∀ c, c ∈ [s1.heap.objs.size + 4, s1.heap.objs.size + 2, s1.heap.objs.size + 3, s1.heap.objs.size, s1.heap.objs.size + 1] → FpOk X pins G c := fun c hc => by
    have le : s1.heap.objs.size ≤ c := by
      rcases five hc with q | q | q | q | q <;> rw [q] <;> first | exact Nat.le_add_right _ _ | exact Nat.le_refl _
    exact J.fpOk le (J.hok.fresh le)
  have fin : wpAny (model X.prog X.w) X.A (pyIter (.ref (h4 k kk s1.heap a b).objs.size)) (PIE X pins σ (.Tuple elts n tpos) R) X.xe { s1 with heap := h5 k kk s1.heap a b } := by
    rw [m1]
    exact wpAny_pyIter_zip m2 ⟨_, _, _, _, G, rfl, J2, turn_mixed (PySem.W.ktu_apart s1.heap.objs.size a b la lb), ⟨m2, m3, ⟨_, _, m4⟩, m5, m6⟩, fr, q⟩
  cases k with
  | true =>
    cases kk with
    | true => exact absurd rfl ne
    | false => exact call_lt sa sb fin
  | false =>
    cases kk with
    | true => exact call_tl sa sb fin
    | false => exact absurd rfl ne
end Tz
/-! max(x) of a tuple of ints. -/
namespace Tc
open PySem PySem.Spec PyProof.Rows L2
theorem reads_ints {h : Heap} : ∀ {us : List Value} {ns : List Int}, IntsAre us ns → ∃ as, ReadsAll h us (ns.map PyData.int) as
  | _, _, .nil => ⟨_, .nil⟩
  | _, _, .cons n t r => by
    obtain ⟨as, z⟩ := reads_ints (h := h) r
    exact ⟨_, .cons (Reads.int n t) z⟩
theorem alike_ints (ns : List Int) : PySem.W.AlikeAll (ns.map PyData.int) := by
  refine ⟨fun x hx y hy => ?_, fun x hx => ?_⟩
  · obtain ⟨i, _, rfl⟩ := List.mem_map.mp hx
    obtain ⟨j, _, rfl⟩ := List.mem_map.mp hy
    rfl
  · obtain ⟨i, _, rfl⟩ := List.mem_map.mp hx
    exact fun e => nomatch e
theorem depth_ints : ∀ l : List Int, PyData.depthAll (l.map PyData.int) = 0
  | [] => rfl
  | i :: l => by
    show max 0 (PyData.depthAll (l.map PyData.int)) = 0
    rw [depth_ints l] <;> rfl
theorem foldl_max : ∀ (l : List Int) (n : Int), (l.foldl max n) ∈ n :: l ∧ ∀ y ∈ n :: l, y ≤ l.foldl max n
  | [], n => ⟨.head _, fun y hy => by
    cases hy with
    | head => exact Int.le_refl _
    | tail _ h => cases h⟩
  | m :: l, n => by
    obtain ⟨h1, h2⟩ := foldl_max l (max n m)
    refine ⟨?_, fun y hy => ?_⟩
    · show l.foldl max (max n m) ∈ n :: m :: l
      rcases List.mem_cons.mp h1 with e | e
      · rw [e]
        rcases Int.le_total n m with z | z
        · rw [Int.max_eq_right z]
          exact .tail _ (.head _)
        · rw [Int.max_eq_left z]
          exact .head _
      · exact .tail _ (.tail _ e)
    · show y ≤ l.foldl max (max n m)
      have h0 := h2 (max n m) (.head _)
      rcases List.mem_cons.mp hy with e | e
      · rw [e]
        exact Int.le_trans (Int.le_max_left n m) h0
      · rcases List.mem_cons.mp e with e | e
        · rw [e]
          exact Int.le_trans (Int.le_max_right n m) h0
        · exact h2 y (.tail _ e)
section
variable {X : Cx}
/-- max(x) of a tuple of ints -/
def rMaxT (K : PySem.W.Frag) : List V → Hp → VK → Prop := fun vs H Q => ∃ (a : Addr) (ns : List Int), vs = [V.ref a] ∧ SqT K H a (ns.map V.int) ∧ 0 < ns.length ∧ ∀ m, m ∈ ns → (∀ y, y ∈ ns → y ≤ m) → Q (.int m) H
theorem cr_maxT (hc : X.calm = true) (hu : X.A.units + 64 < cLine) : CallR X (.builtin "max") (rMaxT X.K) := by
  intro pins s σ H vs us Q I r h
  obtain ⟨a, ns, rfl, hs, hne, q⟩ := h
  obtain ⟨its, rv, hT, _⟩ := I.tuple hs
  rw [Vals.ref1 r]
  have hi := rv.ints
  cases ns with
  | nil => exact absurd hne (by decide)
  | cons n r =>
  obtain ⟨as, ra⟩ := reads_ints (h := s.heap) hi
  refine PySem.W.max_tuple_data (I.ok.hd hc) hT (by simpa using ra) (alike_ints (n :: r)) ?_ fun i v h' tk bs hv hr hk => ?_
  · have z := depth_ints (n :: r)
    rw [show PyData.int n :: r.map PyData.int = (n :: r).map PyData.int from rfl, z]
    omega
  rw [PySem.W.maxD_ints] at hr
  obtain ⟨t, e⟩ : ∃ t, v = Value.int (r.foldl max n) t := by
    cases hr with
    | int i t => exact ⟨t, rfl⟩
  obtain ⟨m1, m2⟩ := foldl_max r n
  exact ⟨.int (r.foldl max n), H, I.kept hk, ⟨t, e⟩, q _ m1 m2⟩
end
end Tc
/-! sum of a tuple of ints. -/
namespace Tz
open PySem PySem.Spec PyProof.Rows L2
section
variable {prog : Program} {w : World} {A : Around} {E : Value → Shared → Prop} {s : Shared} {l : Addr}
theorem sum_tup {ps : Array (Int × Tok)} {Q : Value → Shared → Prop} (hh : A.handled = none) (q : s.heap.IsTuple l (intItems ps))
    (g : ∀ h' tk t, (∀ b o, s.heap.get? b = some o → h'.get? b = some o) → Q (.int (preSum (numAt ps) ps.size) t) { s with heap := h', toks := tk }) : wpAny (model prog w) A (call (.builtin "sum") [.ref l]) Q E s := by
  have lt : l < s.heap.objs.size := by
    obtain ⟨o, e, _⟩ := id q
    exact Heap.lt_size e
  refine call_sum_walkG (wpAny_pyIter_tuple q ?_)
  have up : ∀ b o, s.heap.get? b = some o → (s.heap.push { cls := .type "tuple_iterator", data := .fields #[.ref l, .int 0 0] }).get? b = some o := fun b o e => Heap.get?_push_of_some _ e
  have st : (s.heap.push { cls := .type "tuple_iterator", data := .fields #[.ref l, .int 0 0] }).IsTupleIter s.heap.objs.size l 0 ∧ (s.heap.push { cls := .type "tuple_iterator", data := .fields #[.ref l, .int 0 0] }).IsTuple l (intItems ps) := ⟨⟨_, Heap.get?_push_size _ rfl, rfl, rfl⟩, q.push _⟩
  have within : ∀ b ∈ [s.heap.objs.size, l], b < (s.heap.push { cls := .type "tuple_iterator", data := .fields #[.ref l, .int 0 0] }).objs.size := fun b hb => by
    rw [Heap.size_push]
    rcases List.mem_cons.mp hb with e | hb
    · rw [e]
      exact Nat.lt_succ_self _
    · rw [List.mem_singleton.mp hb]
      exact Nat.lt_succ_of_lt lt
  refine ⟨_, _, _, _, _, _, numAt ps, rfl, Walks.tuple (A := A.in1) hh _ l (Nat.ne_of_lt lt) (intItems ps), st, within, (fun _ _ => intItems_at), fun h' tk t kp => ?_⟩
  have z := g h' tk t fun b o e => kp b o (fun hm => absurd (Heap.lt_size e) (by rw [List.mem_singleton.mp hm]; exact Nat.lt_irrefl _)) (up b o e)
  simpa [intItems] using z
end
def rSumT (K : PySem.W.Frag) : List V → Hp → VK → Prop := fun vs H Q => ∃ (a : Addr) (ns : List Int), vs = [V.ref a] ∧ SqT K H a (ns.map V.int) ∧ Q (.int ns.sum) H
theorem cr_sumT {X : Cx} (hc : X.calm = true) : CallR X (.builtin "sum") (rSumT X.K) := by
  intro pins s σ H vs us Q I r h
  obtain ⟨a, ns, rfl, hs, q⟩ := h
  obtain ⟨its, rv, p, _⟩ := I.tuple hs
  rw [Vals.ref1 r]
  have hi := rv.ints
  obtain ⟨ps, e⟩ := hi.allInts.items
  have hn : numsOf (intItems ps).toList = ns := by rw [← e]; exact hi.numsOf
  rw [nums_intItems] at hn
  have p : s.heap.IsTuple a its.toArray := p
  rw [e] at p
  refine sum_tup (I.ok.hd hc) p fun h' tk t kp => ?_
  rw [preSum_eq, List.take_of_length_le (by simp), hn]
  exact ⟨.int ns.sum, H, I.kept (t' := tk) kp, ⟨t, rfl⟩, q⟩
end Tz
/-! Built-ins, slices, texts. -/
namespace Px
open PySem PySem.Spec PyProof.Rows L2 Tc
variable [Px.Fld]
section
variable {B : Bas} {X : Cx} {Γ : List Sl} {pos : Pos} {k : Nat}
/-! ### one argument, a plain answer -/
def Fn1 (r : List V → Hp → VK → Prop) (d : PyData) (k : PyData → Prop) : Prop := ∀ (H : Hp) (v : V) (Q : VK), Dv H v d → (∀ d' v', k d' → (∀ H', Dv H' v' d') → Q v' H) → r [v] H Q
theorem ge_b1 {x : Str} {p : Pos} {a : Expr} {id : String} {r : List V → Hp → VK → Prop} {φ : PyData → List Sl → Prop} (hc : CallR X (.builtin id) r) (R : PyData → (PyData → Prop) → Prop) (sem : ∀ d k, R d k → Fn1 r d k) (hg : Gl X x) (hm : X.mg x = none) (hv : bootBuiltins x = some (.builtin id))
    (h : GB B X a Γ fun d Γ1 => R d fun d' => φ d' Γ1) (hn : x ≠ "__name__" := by decide) (hdb : (x == ("__debug__" : Str)) = false := by decide) (he : starEach [a] X.env = (false, eval a X.env) :: starEach [] X.env := by rfl) : GE B X (.Call (.Name x p) [a] [] pos) Γ φ := fun Hs σ H Q S g =>
  pe_of (pe_callB hc hg hm hv (pa_cons pe_W pa_nil he) hn hdb (he := he)) (show teW X a σ H _ from h Hs σ H _ S fun d Γ1 v Hs1 H1 p s S1 q => sem d _ p H1 v Q q fun d' v' kd hd => g d' Γ1 v' Hs1 H1 kd s S1 (hd Hs1))
theorem ge_t1 {x : Str} {p : Pos} {a : Expr} {id : String} {r : List V → Hp → VK → Prop} {φ : PyData → List Sl → Prop} (hc : CallR X (.type id) r) (R : PyData → (PyData → Prop) → Prop) (sem : ∀ d k, R d k → Fn1 r d k) (hg : Gl X x) (hm : X.mg x = none) (hv : bootBuiltins x = some (.type id))
    (h : GB B X a Γ fun d Γ1 => R d fun d' => φ d' Γ1) (hn : x ≠ "__name__" := by decide) (hdb : (x == ("__debug__" : Str)) = false := by decide) (he : starEach [a] X.env = (false, eval a X.env) :: starEach [] X.env := by rfl) : GE B X (.Call (.Name x p) [a] [] pos) Γ φ := fun Hs σ H Q S g =>
  pe_of (pe_callTy hc hg hm hv (pa_cons pe_W pa_nil he) hn hdb (he := he)) (show teW X a σ H _ from h Hs σ H _ S fun d Γ1 v Hs1 H1 p s S1 q => sem d _ p H1 v Q q fun d' v' kd hd => g d' Γ1 v' Hs1 H1 kd s S1 (hd Hs1))
def IntF (d : PyData) (k : PyData → Prop) : Prop := match d with
  | .int i => k (.int i)
  | .bool b => k (.int (if b then 1 else 0))
  | .str z => ∃ n, PySem.intText? z = some n ∧ z.length ≤ 640 ∧ k (.int n)
  | _ => False
def SumD (d : PyData) (k : PyData → Prop) : Prop := ∃ ns : List Int, (d = .list (ns.map .int) ∨ d = .tuple (ns.map .int)) ∧ k (.int ns.sum)
def MaxD (d : PyData) (k : PyData → Prop) : Prop := ∃ ns : List Int, (d = .list (ns.map .int) ∨ d = .tuple (ns.map .int)) ∧ 0 < ns.length ∧ ∀ m, m ∈ ns → (∀ y, y ∈ ns → y ≤ m) → k (.int m)
def MinD (d : PyData) (k : PyData → Prop) : Prop := ∃ ns : List Int, d = .list (ns.map .int) ∧ 0 < ns.length ∧ ∀ m, m ∈ ns → (∀ y, y ∈ ns → m ≤ y) → k (.int m)
def AllD (d : PyData) (k : PyData → Prop) : Prop := ∃ bs : List Bool, d = .list (bs.map .bool) ∧ k (.bool (bs.all id))
def RepD (d : PyData) (k : PyData → Prop) : Prop := Good d ∧ k (.str d.shown)
def rInt (xs : List V) (H : Hp) (Q : VK) : Prop := ((∃ i, xs = [.int i] ∧ Q (.int i) H) ∨ ∃ k, xs = [.bl k] ∧ Q (.int (if k then 1 else 0)) H) ∨ ∃ a n, xs = [.str a] ∧ PySem.intText? a = some n ∧ a.length ≤ 640 ∧ Q (.int n) H
theorem call_intA : CallR X (.type "int") rInt := CallR.or call_int1 call_int_str
theorem sem_int1 (d : PyData) (k : PyData → Prop) (h : IntF d k) : Fn1 rInt d k := fun H v Q q g => by
  cases q with
  | int i => exact .inl (.inl ⟨i, rfl, g _ _ h fun _ => .int _⟩)
  | bl b => exact .inl (.inr ⟨b, rfl, g _ _ h fun _ => .int _⟩)
  | str z =>
    obtain ⟨n, e, l, h⟩ := h
    exact .inr ⟨z, n, rfl, e, l, g _ _ h fun _ => .int _⟩
  | _ => exact h.elim
theorem sem_sum {K : PySem.W.Frag} (d : PyData) (k : PyData → Prop) (h : SumD d k) : Fn1 (fun xs H Q => rSum K xs H Q ∨ Tz.rSumT K xs H Q) d k := fun H v Q q g => by
  obtain ⟨ns, rfl | rfl, h⟩ := h
  · cases q with
    | lst r a =>
      rw [dvs_ints a] at r
      exact .inl ⟨_, ns, rfl, rdL r, g _ _ h fun _ => .int _⟩
  · cases q with
    | tup r a =>
      rw [dvs_ints a] at r
      exact .inr ⟨_, ns, rfl, rdT r, g _ _ h fun _ => .int _⟩
theorem sem_min {K : PySem.W.Frag} (d : PyData) (k : PyData → Prop) (h : MinD d k) : Fn1 (rMin K) d k := fun H v Q q g => by
  obtain ⟨ns, rfl, l, h⟩ := h
  cases q with
  | lst r a =>
    rw [dvs_ints a] at r
    exact ⟨_, ns, rfl, rdL r, l, fun m hm hy => g _ _ (h m hm hy) fun _ => .int _⟩
theorem sem_max {K : PySem.W.Frag} (d : PyData) (k : PyData → Prop) (h : MaxD d k) : Fn1 (fun xs H Q => rMax K xs H Q ∨ rMaxT K xs H Q) d k := fun H v Q q g => by
  obtain ⟨ns, rfl | rfl, l, h⟩ := h
  · cases q with
    | lst r a =>
      rw [dvs_ints a] at r
      exact .inl ⟨_, ns, rfl, rdL r, l, fun m hm hy => g _ _ (h m hm hy) fun _ => .int _⟩
  · cases q with
    | tup r a =>
      rw [dvs_ints a] at r
      exact .inr ⟨_, ns, rfl, rdT r, l, fun m hm hy => g _ _ (h m hm hy) fun _ => .int _⟩
theorem sem_all {K : PySem.W.Frag} (d : PyData) (k : PyData → Prop) (h : AllD d k) : Fn1 (rAll K) d k := fun H v Q q g => by
  obtain ⟨ns, rfl, h⟩ := h
  cases q with
  | lst r a =>
    rw [dvs_bools a] at r
    exact ⟨_, ns, rfl, rdL r, g _ _ h fun _ => .bl _⟩
theorem sem_repr (d : PyData) (k : PyData → Prop) (h : RepD d k) : Fn1 rRepr d k := fun H v Q q g => ⟨v, d, rfl, q, h.1.1, h.1.2.1, h.1.2.2, g _ _ h.2 fun _ => .str _⟩
section
variable {x : Str} {p : Pos} {a : Expr} {φ : PyData → List Sl → Prop}
theorem ge_int1 (hx : x = "int") (hg : Gl X x) (hm : X.mg x = none) (h : GB B X a Γ fun d Γ1 => IntF d fun d' => φ d' Γ1) (he : starEach [a] X.env = (false, eval a X.env) :: starEach [] X.env := by rfl) : GE B X (.Call (.Name x p) [a] [] pos) Γ φ := by
  subst hx; exact ge_t1 call_intA IntF sem_int1 hg hm (by decide +kernel) h (he := he)
theorem ge_sum (calm : X.calm = true) (hx : x = "sum") (hg : Gl X x) (hm : X.mg x = none) (h : GB B X a Γ fun d Γ1 => SumD d fun d' => φ d' Γ1) (he : starEach [a] X.env = (false, eval a X.env) :: starEach [] X.env := by rfl) : GE B X (.Call (.Name x p) [a] [] pos) Γ φ := by
  subst hx; exact ge_b1 (CallR.or (cr_sum calm) (Tz.cr_sumT calm)) SumD sem_sum hg hm (by decide +kernel) h (he := he)
theorem ge_min1 (calm : X.calm = true) (hx : x = "min") (hg : Gl X x) (hm : X.mg x = none) (h : GB B X a Γ fun d Γ1 => MinD d fun d' => φ d' Γ1) (he : starEach [a] X.env = (false, eval a X.env) :: starEach [] X.env := by rfl) : GE B X (.Call (.Name x p) [a] [] pos) Γ φ := by
  subst hx; exact ge_b1 (cr_min calm) MinD sem_min hg hm (by decide +kernel) h (he := he)
theorem ge_max1 (calm : X.calm = true) (c : Cxt X k) (hx : x = "max") (hg : Gl X x) (hm : X.mg x = none) (h : GB B X a Γ fun d Γ1 => MaxD d fun d' => φ d' Γ1) (he : starEach [a] X.env = (false, eval a X.env) :: starEach [] X.env := by rfl) : GE B X (.Call (.Name x p) [a] [] pos) Γ φ := by
  subst hx; exact ge_b1 (CallR.or (cr_max calm) (cr_maxT calm c.room.units)) MaxD sem_max hg hm (by decide +kernel) h (he := he)
theorem ge_all (calm : X.calm = true) (hx : x = "all") (hg : Gl X x) (hm : X.mg x = none) (h : GB B X a Γ fun d Γ1 => AllD d fun d' => φ d' Γ1) (he : starEach [a] X.env = (false, eval a X.env) :: starEach [] X.env := by rfl) : GE B X (.Call (.Name x p) [a] [] pos) Γ φ := by
  subst hx; exact ge_b1 (cr_all calm) AllD sem_all hg hm (by decide +kernel) h (he := he)
theorem ge_repr (c : Cxt X k) (hx : x = "repr") (hg : Gl X x) (hm : X.mg x = none) (h : GB B X a Γ fun d Γ1 => RepD d fun d' => φ d' Γ1) (he : starEach [a] X.env = (false, eval a X.env) :: starEach [] X.env := by rfl) : GE B X (.Call (.Name x p) [a] [] pos) Γ φ := by
  subst hx; exact ge_b1 (call_repr c.room c.gd c.sm) RepD sem_repr hg hm (by decide +kernel) h (he := he)
/-! ### isinstance of a built-in kind -/
def isD (T : String) (d : PyData) : Bool := tyIs (tyD d) T
theorem ge_isi {y : Str} {py : Pos} {T : String} (hx : x = "isinstance") (hg : Gl X x) (hm : X.mg x = none) (gy : Gl X y) (my : X.mg y = none) (by_ : bootBuiltins y = some (.type T)) (hT : T ∈ ["int", "bool", "tuple", "str", "list"])
    (h : GB B X a Γ fun d Γ1 => notI d = true ∧ φ (.bool (isD T d)) Γ1) (hn : y ≠ "__name__" := by decide) (hdb : (y == ("__debug__" : Str)) = false := by decide)
    (he : starEach [a, .Name y py] X.env = (false, eval a X.env) :: starEach [.Name y py] X.env := by rfl) (he2 : starEach [.Name y py] X.env = (false, eval (.Name y py) X.env) :: starEach [] X.env := by rfl) (hpl : (backTo pos (starEach [.Name y py] X.env)).any (·.1) = false := by rfl) : GE B X (.Call (.Name x p) [a, .Name y py] [] pos) Γ φ := by
  subst hx
  exact fun Hs σ H Q S g => pe_of (pe_callB call_isi hg hm (by decide +kernel) (pa_cons pe_W (pa_cons (pe_bltn (v := .ty T) gy my by_ rfl hn hdb) pa_nil he2) he) (he := he) (hpl := hpl)) (show teW X a σ H _ from h Hs σ H _ S fun d Γ1 v Hs1 H1 ⟨ni, p⟩ s S1 q => isi_D q ni hT (g _ Γ1 _ Hs1 H1 p s S1 (.bl _)))
/-! ### two ints -/
theorem ge_min2 {b : Expr} (calm : X.calm = true) (hx : x = "min") (hg : Gl X x) (hm : X.mg x = none) (h : GA B X [a, b] Γ fun ds Γ1 => ∃ i j : Int, ds = [.int i, .int j] ∧ φ (.int (if j < i then j else i)) Γ1)
    (he : starEach [a, b] X.env = (false, eval a X.env) :: starEach [b] X.env := by rfl) (hpl : (backTo pos (starEach [b] X.env)).any (·.1) = false := by rfl) : GE B X (.Call (.Name x p) [a, b] [] pos) Γ φ := by
  subst hx
  exact fun Hs σ H Q S g => pe_of (pe_callB (call_min2 calm) hg hm (by decide +kernel) pa_W (he := he) (hpl := hpl)) (h Hs σ H _ S fun ds Γ1 vs Hs1 H1 ⟨i, j, e, p⟩ s S1 dv => by
    subst e
    exact ⟨i, j, dvs_ints (ns := [i, j]) dv, g _ Γ1 _ Hs1 H1 p s S1 (.int _)⟩)
theorem ge_max2 {b : Expr} (calm : X.calm = true) (hx : x = "max") (hg : Gl X x) (hm : X.mg x = none) (h : GA B X [a, b] Γ fun ds Γ1 => ∃ i j : Int, ds = [.int i, .int j] ∧ φ (.int (if j > i then j else i)) Γ1)
    (he : starEach [a, b] X.env = (false, eval a X.env) :: starEach [b] X.env := by rfl) (hpl : (backTo pos (starEach [b] X.env)).any (·.1) = false := by rfl) : GE B X (.Call (.Name x p) [a, b] [] pos) Γ φ := by
  subst hx
  exact fun Hs σ H Q S g => pe_of (pe_callB (call_max2 calm) hg hm (by decide +kernel) pa_W (he := he) (hpl := hpl)) (h Hs σ H _ S fun ds Γ1 vs Hs1 H1 ⟨i, j, e, p⟩ s S1 dv => by
    subst e
    exact ⟨i, j, dvs_ints (ns := [i, j]) dv, g _ Γ1 _ Hs1 H1 p s S1 (.int _)⟩)
theorem ge_divmod {b : Expr} (hx : x = "divmod") (hg : Gl X x) (hm : X.mg x = none) (h : GA B X [a, b] Γ fun ds Γ1 => ∃ i j : Int, ds = [.int i, .int j] ∧ CDivP i j ∧ φ (.tuple [.int (i / j), .int (i % j)]) Γ1)
    (he : starEach [a, b] X.env = (false, eval a X.env) :: starEach [b] X.env := by rfl) (hpl : (backTo pos (starEach [b] X.env)).any (·.1) = false := by rfl) : GE B X (.Call (.Name x p) [a, b] [] pos) Γ φ := by
  subst hx
  exact fun Hs σ H Q S g => pe_of (pe_callB call_divmodW hg hm (by decide +kernel) pa_W (he := he) (hpl := hpl)) (h Hs σ H _ S fun ds Γ1 vs Hs1 H1 ⟨i, j, e, cd, p⟩ s S1 dv => by
    subst e
    exact ⟨i, j, dvs_ints (ns := [i, j]) dv, cd, tup_new S1 (.cons (.int _) (.cons (.int _) .nil)) fun v Hs2 H2 s2 S2 q => g _ Γ1 v Hs2 H2 p (s.trans s2) S2 q⟩)
/-! ### tuple(x), list(x), sorted(x) -/
theorem ge_tupL (hx : x = "tuple") (hg : Gl X x) (hm : X.mg x = none) (h : GQ B X true a Γ fun ds Γ1 => φ (.tuple ds) Γ1) (he : starEach [a] X.env = (false, eval a X.env) :: starEach [] X.env := by rfl) : GE B X (.Call (.Name x p) [a] [] pos) Γ φ := by
  subst hx
  exact fun Hs σ H Q S g => pe_of (pe_callTy call_tuple_of hg hm (by decide +kernel) (pa_cons pe_W pa_nil he) (he := he)) (show teW X a σ H _ from h Hs σ H _ S fun ds Γ1 b vs Hs1 H1 p s S1 hq dv =>
    ⟨b, vs, rfl, .inl ⟨hq, tup_new S1 dv fun v Hs2 H2 s2 S2 q => g _ Γ1 v Hs2 H2 p (s.trans s2) S2 q⟩⟩)
theorem gf_list1 (b : Bool) {χ : List PyData → List Sl → Prop} (hx : x = "list") (hg : Gl X x) (hm : X.mg x = none) (h : GQ B X b a Γ χ) (he : starEach [a] X.env = (false, eval a X.env) :: starEach [] X.env := by rfl) : GF B X (.Call (.Name x p) [a] [] pos) Γ χ := by
  subst hx
  exact fun Hs σ H Q S g => pe_of (pe_callTy call_list_of hg hm (by decide +kernel) (pa_cons pe_W pa_nil he) (he := he)) (show teW X a σ H _ from h Hs σ H _ S fun ds Γ1 c vs Hs1 H1 p s S1 hq dv =>
    ⟨c, vs, rfl, by cases b with | true => exact .inl hq | false => exact .inr hq, fun l hl => by
      obtain ⟨f, n, al⟩ := alone_new S1 hl
      exact g ds Γ1 l vs Hs1 _ p s (S1.aside hl) f n al upd_same dv⟩)
theorem dvs_of_strs {H : Hp} : ∀ ns : List Str, DvAll H (ns.map V.str) (ns.map PyData.str)
  | [] => .nil
  | n :: r => .cons (.str n) (dvs_of_strs r)
end
/-! ### parts -/
def GO (B : Bas) (X : Cx) (e : Option Expr) (Γ : List Sl) (φ : Option Int → List Sl → Prop) : Prop := ∃ t, PO X e t ∧ ∀ (Hs : Hp) (σ : L2.St) (H : Hp) (Q : Option Int → Hp → Prop), Sx B Hs σ H Γ →
  (∀ o Γ' Hs' H', φ o Γ' → Same Hs Hs' → Sx B Hs' σ H' Γ' → Q o H') → t σ H Q
theorem go_none {φ : Option Int → List Sl → Prop} (h : φ none Γ) : GO B X none Γ φ := ⟨_, po_none, fun Hs σ H Q S g => g none Γ Hs H h (Same.refl _) S⟩
theorem go_some {e : Expr} {φ : Option Int → List Sl → Prop} (h : GE B X e Γ fun d Γ1 => ∃ i : Int, d = .int i ∧ φ (some i) Γ1) : GO B X (some e) Γ φ := ⟨_, po_some pe_W, fun Hs σ H Q S g => h Hs σ H _ S fun d Γ1 v Hs1 H1 ⟨i, e, p⟩ s S1 q => by
  subst e
  cases q
  exact ⟨i, rfl, g _ Γ1 Hs1 H1 p s S1⟩⟩
def cutD (ds : List PyData) (lo hi : Option Int) : List PyData := (ds.drop (HT.sIx ds.length 0 lo)).take (HT.sIx ds.length ds.length hi - HT.sIx ds.length 0 lo)
theorem dvs_cut {H : Hp} {vs : List V} {ds : List PyData} (h : DvAll H vs ds) (lo hi : Option Int) : DvAll H (cutV vs lo hi) (cutD ds lo hi) := by
  unfold cutV cutD
  rw [h.len]
  exact dvs_take _ (dvs_drop _ h)
def SlD (d : PyData) (lo hi : Option Int) (k : PyData → Prop) : Prop := match d with
  | .list ds => k (.list (cutD ds lo hi))
  | .tuple ds => k (.tuple (cutD ds lo hi))
  | .str z => z.length ≤ sizeLine ∧ k (.str (cutS z lo hi))
  | _ => False
theorem cut_whole {ds : List PyData} {lo hi : Option Int} (h : HT.sIx ds.length 0 lo = 0 ∧ HT.sIx ds.length ds.length hi = ds.length) : cutD ds lo hi = ds := by
  unfold cutD
  rw [h.1, h.2, List.drop_zero, Nat.sub_zero, List.take_length]
@[irreducible] def toW (X : Cx) (e : Option Expr) : TO := fun σ H Q => ∀ (pins : List (Addr × Obj)) (s : Shared), Inv X pins σ H s → wpAny (model X.prog X.w) X.A (evalPart e X.env) (fun u s' => ∃ o H', Inv X pins σ H' s' ∧ IsPart u o ∧ Q o H') X.xe s
theorem toI {e : Option Expr} {σ : L2.St} {H : Hp} {Q : Option Int → Hp → Prop} (h : ∀ (pins : List (Addr × Obj)) (s : Shared), Inv X pins σ H s → wpAny (model X.prog X.w) X.A (evalPart e X.env) (fun u s' => ∃ o H', Inv X pins σ H' s' ∧ IsPart u o ∧ Q o H') X.xe s) : toW X e σ H Q := by unfold toW; exact h
theorem toE {e : Option Expr} {σ : L2.St} {H : Hp} {Q : Option Int → Hp → Prop} (h : toW X e σ H Q) : ∀ (pins : List (Addr × Obj)) (s : Shared), Inv X pins σ H s → wpAny (model X.prog X.w) X.A (evalPart e X.env) (fun u s' => ∃ o H', Inv X pins σ H' s' ∧ IsPart u o ∧ Q o H') X.xe s := by unfold toW at h; exact h
theorem po_W {e : Option Expr} : PO X e (toW X e) := ⟨fun pins s _ _ _ I h => toE h pins s I⟩
theorem po_of {e : Option Expr} {t : TO} (p : PO X e t) {σ : L2.St} {H : Hp} {Q : Option Int → Hp → Prop} (h : t σ H Q) : toW X e σ H Q := toI fun pins s I => p.run pins s σ H Q I h
theorem go_run {e : Option Expr} {φ : Option Int → List Sl → Prop} (h : GO B X e Γ φ) : ∀ (Hs : Hp) (σ : L2.St) (H : Hp) (Q : Option Int → Hp → Prop), Sx B Hs σ H Γ → (∀ o Γ' Hs' H', φ o Γ' → Same Hs Hs' → Sx B Hs' σ H' Γ' → Q o H') → toW X e σ H Q := fun Hs σ H Q S g => by
  obtain ⟨t, p, h⟩ := h
  exact po_of p (h Hs σ H Q S g)
def rSlAny (K : PySem.W.Frag) : V → Option Int → Option Int → Hp → VK → Prop := fun x lo hi H Q => rSlL K x lo hi H Q ∨ (rSlA K x lo hi H Q ∨ rSlS x lo hi H Q)
theorem ge_slice {a : Expr} {lo hi : Option Expr} {p2 : Pos} {φ : PyData → List Sl → Prop} (h : GE B X a Γ fun d Γ1 => GO B X lo Γ1 fun l Γ2 => GO B X hi Γ2 fun u Γ3 => SlD d l u fun d' => φ d' Γ3) : GE B X (.Subscript a (.Slice lo hi none p2) pos) Γ φ := fun Hs σ H Q S g =>
  pe_of (pe_slice (r := rSlAny X.K) (SlR.or sl_list (SlR.or sl_tupA sl_str)) pe_W po_W po_W) (h Hs σ H _ S fun d Γ1 v Hs1 H1 p s1 S1 q1 => go_run p Hs1 σ H1 _ S1 fun l Γ2 Hs2 H2 p2 s2 S2 => go_run p2 Hs2 σ H2 _ S2 fun u Γ3 Hs3 H3 p3 s3 S3 => by
    have q1 := (q1.mono s2).mono s3
    have s := s1.trans (s2.trans s3)
    cases q1 with
    | lst r a => exact .inl ⟨_, _, rfl, rdL (rd_up S3.sub r), lst_new S3 (dvs_cut a l u) fun v Hs4 H4 s4 S4 q => g _ Γ3 v Hs4 H4 p3 (s.trans s4) S4 q⟩
    | @tup b ys es r a =>
      refine .inr (.inl ⟨_, _, rfl, rdT (rd_up S3.sub r), fun e => ?_, fun _ => tup_new S3 (dvs_cut a l u) fun v Hs4 H4 s4 S4 q => g _ Γ3 v Hs4 H4 p3 (s.trans s4) S4 q⟩)
      rw [a.len] at e
      have p3 : φ (.tuple (cutD es l u)) Γ3 := p3
      rw [cut_whole e] at p3
      exact g _ Γ3 _ Hs3 H3 p3 s S3 (.tup r a)
    | str z => exact .inr (.inr ⟨z, rfl, p3.1, g _ Γ3 _ Hs3 H3 p3.2 s S3 (.str _)⟩)
    | _ => exact p3.elim)
/-! ### texts -/
section
variable {a b : Expr} {ap : Pos} {φ : PyData → List Sl → Prop}
theorem ge_m0 {m : Str} {id : String} {g0 : Str → V} {f0 : Str → PyData} (slot : Slot "str" m id) (ty : typeOf (.builtin id) = pure (.type "method_descriptor")) (rule : MtR X id (fun x xs H Q => ∃ z, x = .str z ∧ xs = [] ∧ True ∧ Q (g0 z) H)) (hf : ∀ z H, Dv H (g0 z) (f0 z))
    (h : GE B X a Γ fun d Γ1 => ∃ z, d = .str z ∧ φ (f0 z) Γ1) (hbase : attributeBase a m X.env (eval a X.env) = eval a X.env := by rfl) (hline : (ap.endLine == pos.line) = true := by rfl) : GE B X (.Call (.Attribute a m ap) [] [] pos) Γ φ := fun Hs σ H Q S g =>
  pe_of (pe_m0 slot ty rule pe_W hbase hline) (h Hs σ H _ S fun d Γ1 v Hs1 H1 ⟨z, e, p⟩ s S1 q => by
    subst e
    cases q
    exact ⟨⟨_, rfl⟩, z, rfl, rfl, trivial, g _ Γ1 _ Hs1 H1 p s S1 (hf z Hs1)⟩)
theorem ge_isascii (h : GE B X a Γ fun d Γ1 => ∃ z, d = .str z ∧ φ (.bool (Txt.isascii z)) Γ1) (hbase : attributeBase a "isascii" X.env (eval a X.env) = eval a X.env := by rfl) (hline : (ap.endLine == pos.line) = true := by rfl) : GE B X (.Call (.Attribute a "isascii" ap) [] [] pos) Γ φ :=
  ge_m0 (g0 := fun z => .bl (Txt.isascii z)) (f0 := fun z => .bool (Txt.isascii z)) PySem.F.slot_str_isascii PySem.F.type_str_isascii mt_isascii (fun _ _ => .bl _) h hbase hline
/-- s.join(ys) -/
theorem ge_join (h : GE B X a Γ fun d Γ1 => ∃ z : Str, d = .str z ∧ GB B X b Γ1 fun d2 Γ2 => ∃ ys : List Str, (d2 = .list (ys.map .str) ∨ d2 = .tuple (ys.map .str)) ∧ (ys.map (·.length)).sum + ys.length * z.length ≤ 16777216 ∧ φ (.str (Txt.join z ys)) Γ2)
    (hs : starEach [b] X.env = [(false, eval b X.env)] := by rfl) (hbase : attributeBase a "join" X.env (eval a X.env) = eval a X.env := by rfl) (hline : (ap.endLine == pos.line) = true := by rfl) : GE B X (.Call (.Attribute a "join" ap) [b] [] pos) Γ φ := fun Hs σ H Q S g =>
  pe_of (pe_join pe_W pe_W hs hbase hline) (h Hs σ H _ S fun d Γ1 v Hs1 H1 ⟨z, e, p⟩ s1 S1 q1 => by
    subst e
    cases q1
    refine ⟨⟨z, rfl⟩, p Hs1 σ H1 _ S1 fun d2 Γ2 w Hs2 H2 ⟨ys, e2, hz, p2⟩ s2 S2 q2 => ?_⟩
    have fin := g _ Γ2 _ Hs2 H2 p2 (s1.trans s2) S2 (.str _)
    rcases e2 with rfl | rfl
    · cases q2 with
      | lst r a =>
        rw [dvs_strs a] at r
        exact ⟨z, _, ys, rfl, rfl, .inl (rdL r), hz, fin⟩
    · cases q2 with
      | tup r a =>
        rw [dvs_strs a] at r
        exact ⟨z, _, ys, rfl, rfl, .inr (rdT r), hz, fin⟩)
/-! ### f'..' -/
def FmtD (d : PyData) (k : Str → Prop) : Prop := match d with
  | .str z => z.length ≤ sizeLine ∧ k z
  | .int i => i.natAbs.log2 < 1920 ∧ k (toString i)
  | _ => False
/-- {e}: a text -/
theorem ge_fmt (h : GE B X a Γ fun d Γ1 => FmtD d fun z => φ (.str z) Γ1) : GE B X (.FormattedValue a (-1) none pos) Γ φ := fun Hs σ H Q S g =>
  pe_of (pe_fmt pe_W) (h Hs σ H _ S fun d Γ1 v Hs1 H1 p s1 S1 q1 => by
    cases q1 with
    | str z => exact .inl ⟨z, rfl, p.1, g _ Γ1 _ Hs1 H1 p.2 s1 S1 (.str _)⟩
    | int i => exact .inr ⟨i, rfl, p.1, g _ Γ1 _ Hs1 H1 p.2 s1 S1 (.str _)⟩
    | _ => exact p.elim)
/-- the parts, one behind the other -/
def GJ (B : Bas) (X : Cx) : List Expr → Str → List Sl → (Str → List Sl → Prop) → Prop
  | [], acc, Γ, φ => φ acc Γ
  | e :: es, acc, Γ, φ => GE B X e Γ fun d Γ1 => ∃ y : Str, d = .str y ∧ (acc ++ y).length ≤ sizeLine ∧ GJ B X es (acc ++ y) Γ1 φ
theorem pj_W : ∀ es : List Expr, PJ X es (es.map (teW X))
  | [] => .nil
  | _ :: es => .cons pe_W (pj_W es)
theorem gj_run {φ : Str → List Sl → Prop} : ∀ (es : List Expr) (acc : Str) (Γ : List Sl), GJ B X es acc Γ φ → ∀ (Hs : Hp) (σ : L2.St) (H : Hp) (Q : Str → Hp → Prop), Sx B Hs σ H Γ → (∀ z Γ' Hs' H', φ z Γ' → Same Hs Hs' → Sx B Hs' σ H' Γ' → Q z H') → tJs (es.map (teW X)) acc σ H Q
  | [], acc, Γ, h, Hs, σ, H, Q, S, g => g acc Γ Hs H h (Same.refl _) S
  | e :: es, acc, Γ, h, Hs, σ, H, Q, S, g => h Hs σ H _ S fun d Γ1 v Hs1 H1 ⟨y, e1, hl, p⟩ s1 S1 q1 => by
    subst e1
    cases q1
    exact ⟨y, rfl, hl, gj_run es (acc ++ y) Γ1 p Hs1 σ H1 Q S1 fun z Γ' Hs' H' pz s S' => g z Γ' Hs' H' pz (s1.trans s) S'⟩
theorem ge_joined {v1 v2 : Expr} {rest : List Expr} (h : GJ B X (v1 :: v2 :: rest) Str.empty Γ fun z Γ1 => φ (.str z) Γ1) : GE B X (.JoinedStr (v1 :: v2 :: rest) pos) Γ φ := fun Hs σ H Q S g =>
  pe_of (pe_joined (pj_W _)) (gj_run _ _ _ h Hs σ H _ S fun z Γ' Hs' H' p s S' => g _ Γ' _ Hs' H' p s S' (.str z))
theorem ge_joined1 (h : GE B X a Γ φ) : GE B X (.JoinedStr [a] pos) Γ φ := fun Hs σ H Q S g => pe_of (pe_joined1 pe_W) (h Hs σ H Q S g)
end
end
end Px
/-! The rules by the syntax alone: slots found by their names. -/
namespace Px
open PySem PySem.Spec PyProof.Rows L2 Tc
variable [Px.Fld]
def idxS : List Str → Str → Option Nat
  | [], _ => none
  | y :: r, x => if y == x then some 0 else (idxS r x).map (· + 1)
theorem idxS_ok {x : Str} : ∀ {l : List Str} {i : Nat}, idxS l x = some i → l[i]? = some x
  | y :: r, i, h => by
    unfold idxS at h
    split at h
    · rename_i e
      cases h
      rw [eq_of_beq e] <;> rfl
    · cases q : idxS r x with
      | none => rw [q] at h; cases h
      | some j =>
        rw [q] at h
        cases h
        exact (idxS_ok q : r[j]? = some x)
def Sees (sc : Scope) (x : Str) : Bool := match sc.names.lookup x with
  | some .local | some .cell | some .free => true
  | _ => false
theorem sees_ok {sc : Scope} {x : Str} (h : Sees sc x = true) : Vis sc x := by
  unfold Sees at h
  split at h
  · exact .inl ‹_›
  · exact .inr (.inl ‹_›)
  · exact .inr (.inr ‹_›)
  · cases h
section
variable {B : Bas} {X : Cx} {Γ : List Sl} {E : DE} {pos : Pos} {k : Nat}
theorem name_e {i : Nat} {x : Str} {y : PyData} {φ : PyData → List Sl → Prop} (hN : idxS X.N x = some i) (hΓ : Γ[i]? = some (.d y)) (hv : Sees X.env.scope x = true) (h : φ y Γ) (hd : (x == ("__debug__" : Str)) = false := by decide) (hcd : (x == ("__classdict__" : Str)) = false := by decide) :
    GE B X (.Name x pos) Γ φ := ge_name i (idxS_ok hN) hΓ (sees_ok hv) h hd hcd
theorem name_give {i : Nat} {x : Str} {a : Addr} {ds : List PyData} {φ : PyData → List Sl → Prop} (hN : idxS X.N x = some i) (hΓ : Γ[i]? = some (.own a ds)) (hv : Sees X.env.scope x = true) (h : φ (.list ds) (Γ.set i (.d (.list ds)))) (hd : (x == ("__debug__" : Str)) = false := by decide) (hcd : (x == ("__classdict__" : Str)) = false := by decide) :
    GE B X (.Name x pos) Γ φ := ge_give i (idxS_ok hN) hΓ (sees_ok hv) h hd hcd
theorem name_b {i : Nat} {x : Str} {a : Addr} {ds : List PyData} {φ : PyData → List Sl → Prop} (hN : idxS X.N x = some i) (hΓ : Γ[i]? = some (.own a ds)) (hv : Sees X.env.scope x = true) (h : φ (.list ds) Γ) (hd : (x == ("__debug__" : Str)) = false := by decide) (hcd : (x == ("__classdict__" : Str)) = false := by decide) :
    GB B X (.Name x pos) Γ φ := gb_own i (idxS_ok hN) hΓ (sees_ok hv) h hd hcd
theorem name_q {i : Nat} {x : Str} {a : Addr} {ds : List PyData} {φ : List PyData → List Sl → Prop} (hN : idxS X.N x = some i) (hΓ : Γ[i]? = some (.own a ds)) (hv : Sees X.env.scope x = true) (h : φ ds Γ) (hd : (x == ("__debug__" : Str)) = false := by decide) (hcd : (x == ("__classdict__" : Str)) = false := by decide) :
    GQ B X true (.Name x pos) Γ φ := gq_own i (idxS_ok hN) hΓ (sees_ok hv) h hd hcd
theorem set_e (c : Bod X k) {i : Nat} {x : Str} {e : Expr} {pos' : Pos} (hi : idxS X.N x = some i) (hx : X.env.scope.names.lookup x = some .local) (h : GE B X e Γ fun d Γ1 => Nat.ble (i + 1) Γ1.length = true ∧ E.nx (Γ1.set i (.d d)))
    (hs : swapsWith e (some (.Name x pos')) pos.line X.env = pure false := by rfl) : G1 B X (.Assign [.Name x pos'] e pos) Γ E := g1_set c i (idxS_ok hi) (.inl hx) (fun Hs σ H Q S g => h Hs σ H Q S fun d Γ' v Hs' H' p => g d Γ' v Hs' H' ⟨Nat.le_of_ble_eq_true p.1, p.2⟩) hs (.inr hx)
theorem set_cell (c : Bod X k) {i : Nat} {x : Str} {e : Expr} {pos' : Pos} (hi : idxS X.N x = some i) (hx : X.env.scope.names.lookup x = some .cell) (h : GE B X e Γ fun d Γ1 => Nat.ble (i + 1) Γ1.length = true ∧ E.nx (Γ1.set i (.d d)))
    (hs : swapsWith e (some (.Name x pos')) pos.line X.env = pure false := by rfl) (hf : X.fn x = true := by rfl) : G1 B X (.Assign [.Name x pos'] e pos) Γ E := g1_set c i (idxS_ok hi) (.inr hx) (fun Hs σ H Q S g => h Hs σ H Q S fun d Γ' v Hs' H' p => g d Γ' v Hs' H' ⟨Nat.le_of_ble_eq_true p.1, p.2⟩) hs (.inl hf)
theorem set_l (c : Bod X k) {i : Nat} {x : Str} {e : Expr} {pos' : Pos} (hi : idxS X.N x = some i) (hx : X.env.scope.names.lookup x = some .local) (h : GF B X e Γ fun ds Γ1 => Nat.ble (i + 1) Γ1.length = true ∧ ∀ a, Alone Γ1 a → E.nx (Γ1.set i (.own a ds)))
    (hs : swapsWith e (some (.Name x pos')) pos.line X.env = pure false := by rfl) : G1 B X (.Assign [.Name x pos'] e pos) Γ E := g1_setL c i (idxS_ok hi) (.inl hx) (fun Hs σ H Q S g => h Hs σ H Q S fun d Γ' v Hs' H' vs p => g d Γ' v Hs' H' vs ⟨Nat.le_of_ble_eq_true p.1, p.2⟩) hs (.inr hx)
theorem set_lc (c : Bod X k) {i : Nat} {x : Str} {e : Expr} {pos' : Pos} (hi : idxS X.N x = some i) (hx : X.env.scope.names.lookup x = some .cell) (h : GF B X e Γ fun ds Γ1 => Nat.ble (i + 1) Γ1.length = true ∧ ∀ a, Alone Γ1 a → E.nx (Γ1.set i (.own a ds)))
    (hs : swapsWith e (some (.Name x pos')) pos.line X.env = pure false := by rfl) (hf : X.fn x = true := by rfl) : G1 B X (.Assign [.Name x pos'] e pos) Γ E := g1_setL c i (idxS_ok hi) (.inr hx) (fun Hs σ H Q S g => h Hs σ H Q S fun d Γ' v Hs' H' vs p => g d Γ' v Hs' H' vs ⟨Nat.le_of_ble_eq_true p.1, p.2⟩) hs (.inl hf)
end
/-! ### what the data say -/
section
variable {k : PyData → Prop} {q : Bool → Prop} {n : Int → Prop} {i j : Int} {x y : Str} {xs ys : List PyData}
theorem add_ii (h : k (.int (i + j))) : AddD (.int i) (.int j) k := h
theorem add_tt (l : xs.length + ys.length ≤ sizeLine) (h : k (.tuple (xs ++ ys))) : AddD (.tuple xs) (.tuple ys) k := ⟨l, h⟩
theorem int0_i {f : Int → Int → Int} (h : k (.int (f i j))) : Int0 f (.int i) (.int j) k := h
theorem mul_ii (c : MulOk i j) (h : k (.int (i * j))) : MulD (.int i) (.int j) k := ⟨c, h⟩
theorem ord_i {p : Int → Int → Bool} (h : q (p i j)) : OrdD p (.int i) (.int j) q := h
theorem isN_i {d : PyData} (h : q (isN d)) : IsND d .none q := h
theorem notN_i {d : PyData} (h : q (!isN d)) : NotND d .none q := h
theorem eq_p {d1 d2 : PyData} (p : plain2 d1 d2 = true) (h : q (PyData.eqv d1 d2)) : EqD d1 d2 q := ⟨.inl p, h⟩
theorem ne_p {d1 d2 : PyData} (p : plain2 d1 d2 = true) (h : q (!PyData.eqv d1 d2)) : NeD d1 d2 q := ⟨.inl p, h⟩
theorem len_l (h : n xs.length) : LenD (.list xs) n := h
theorem len_t (h : n xs.length) : LenD (.tuple xs) n := h
theorem ix_l {d : PyData} (e : atD xs i = some d) (h : k d) : IxD (.list xs) (.int i) k := ⟨d, e, h⟩
theorem ix_t {d : PyData} (e : atD xs i = some d) (h : k d) : IxD (.tuple xs) (.int i) k := ⟨d, e, h⟩
theorem seq_l {K : List PyData → Prop} (h : K xs) : SeqD (.list xs) K := h
theorem seq_t {K : List PyData → Prop} (h : K xs) : SeqD (.tuple xs) K := h
theorem intf_i (h : k (.int i)) : IntF (.int i) k := h
theorem sl_t {lo hi : Option Int} (h : k (.tuple (cutD xs lo hi))) : SlD (.tuple xs) lo hi k := h
end
theorem len_ok {α : Type} {l : List α} (h : Nat.ble l.length 1000 = true) : l.length ≤ sizeLine := Nat.le_trans (Nat.le_of_ble_eq_true h) (by decide)
theorem isD_int (d : PyData) : isD "int" d = (match d with | .int _ => true | .bool _ => true | _ => false) := ty_int d
theorem isD_bool (d : PyData) : isD "bool" d = (match d with | .bool _ => true | _ => false) := ty_bool d
theorem isD_tuple (d : PyData) : isD "tuple" d = (match d with | .tuple _ => true | _ => false) := ty_tuple d
theorem isD_str (d : PyData) : isD "str" d = (match d with | .str _ => true | _ => false) := ty_str d
end Px
namespace Px
open PySem PySem.Spec PyProof.Rows L2 Tc
variable [Px.Fld]
/-- the built-ins that are called are Python's own -/
structure Gls (mg : Str → Option Value) : Prop where
  len : mg "len" = none
  int : mg "int" = none
  bool : mg "bool" = none
  str : mg "str" = none
  tuple : mg "tuple" = none
  list : mg "list" = none
  isinstance : mg "isinstance" = none
  abs : mg "abs" = none
  divmod : mg "divmod" = none
  range : mg "range" = none
  repr : mg "repr" = none
  min : mg "min" = none
  max : mg "max" = none
  all : mg "all" = none
  any : mg "any" = none
  sum : mg "sum" = none
  sorted : mg "sorted" = none
  zip : mg "zip" = none
  enumerate : mg "enumerate" = none
  reversed : mg "reversed" = none
  set : mg "set" = none
/-- the same surroundings -/
structure SameX (X : Cx) (P : Program) (w : World) (K : PySem.W.Frag) (mg : Str → Option Value) (base : Heap) : Prop where
  p : X.prog = P
  w : X.w = w
  k : X.K = K
  m : X.mg = mg
  b : X.base = base
section
variable {B : Bas} {X : Cx} {Γ : List Sl} {E : DE} {pos : Pos} {k j n : Nat} {P : Program} {w : World} {K : PySem.W.Frag} {mg : Str → Option Value} {base : Heap}
theorem num_e {x : Str} {n : Int} {φ : PyData → List Sl → Prop} (hX : SameX X P w K mg base) (hm : ∃ t, mg x = some (.int n t)) (hg : Gl X x) (h : φ (.int n) Γ) (hd : (x == ("__debug__" : Str)) = false) : GE B X (.Name x pos) Γ φ := ge_num (by rw [hX.m]; exact hm) hg h hd
theorem call_e {x : Str} {p : Pos} {e : Expr} {es : List Expr} {ps : List Str} {pre : List PyData → Prop} {f : List PyData → Out} {ψ : Addr → PyData → List Sl → Prop} {φ : PyData → List Sl → Prop} (hX : SameX X P w K mg base) (F : Call P w K mg base (L2.CX P w) j x ps (spF n pre f)) (c : Cxt X k) (hj : Nat.ble j k = true) (hg : Gl X x) (ex : Exc B X ψ)
    (h : GA B X (e :: es) Γ fun ds Γ1 => ds.length = n ∧ pre ds ∧ (f ds).to (fun d => φ d Γ1) (fun C d => ψ C d Γ1)) (hdb : (x == ("__debug__" : Str)) = false)
    (he : starEach (e :: es) X.env = (false, eval e X.env) :: starEach es X.env) (hpl : (backTo pos (starEach es X.env)).any (·.1) = false) : GE B X (.Call (.Name x p) (e :: es) [] pos) Γ φ := by
  obtain ⟨rfl, rfl, rfl, rfl, rfl⟩ := hX
  exact ge_call F c (Nat.le_of_ble_eq_true hj) hg ex h hdb he hpl
theorem pail_e {i : Nat} {x y : Str} {p py : Pos} {es : List Expr} {ps : List Str} {a : Addr} {ms0 : List PyData} {pre : List PyData → List PyData → Prop} {R : List PyData → List PyData → Out → List PyData → Prop} {ψ : Addr → PyData → List Sl → Prop} {φ : PyData → List Sl → Prop} (hX : SameX X P w K mg base) (F : Call P w K mg base (L2.CX P w) j x ps (spP n pre R)) (c : Cxt X k) (hj : Nat.ble j k = true) (hg : Gl X x) (ex : Exc B X ψ)
    (hN : idxS X.N y = some i) (hv : Sees X.env.scope y = true) (hΓ : Γ[i]? = some (.own a ms0))
    (h : GA B X es Γ fun ds Γ1 => ∃ ms, Γ1[i]? = some (.own a ms) ∧ ds.length = n ∧ pre ms ds ∧ ∀ o ms', R ms ds o ms' → o.to (fun d => φ d (Γ1.set i (.own a ms'))) (fun C d => ψ C d (Γ1.set i (.own a ms')))) (hdb : (x == ("__debug__" : Str)) = false)
    (hd : (y == ("__debug__" : Str)) = false) (hcd : (y == ("__classdict__" : Str)) = false)
    (he : starEach (.Name y py :: es) X.env = (false, eval (.Name y py) X.env) :: starEach es X.env) (hpl : (backTo pos (starEach es X.env)).any (·.1) = false) : GE B X (.Call (.Name x p) (.Name y py :: es) [] pos) Γ φ := by
  obtain ⟨rfl, rfl, rfl, rfl, rfl⟩ := hX
  exact ge_pail i F c (Nat.le_of_ble_eq_true hj) hg ex (idxS_ok hN) (sees_ok hv) hΓ h hdb hd hcd he hpl
end
end Px
namespace Px
open PySem PySem.Spec PyProof.Rows L2 Tc
variable [Px.Fld]
section
variable {B : Bas} {X : Cx} {Γ : List Sl} {pos : Pos}
theorem isi_int {x y : Str} {p py : Pos} {a : Expr} {φ : PyData → List Sl → Prop} (hx : x = "isinstance") (hy : y = "int") (hg : Gl X x) (hm : X.mg x = none) (gy : Gl X y) (my : X.mg y = none) (he : starEach [a, .Name y py] X.env = (false, eval a X.env) :: starEach [.Name y py] X.env) (he2 : starEach [.Name y py] X.env = (false, eval (.Name y py) X.env) :: starEach [] X.env) (hpl : (backTo pos (starEach [.Name y py] X.env)).any (·.1) = false) (h : GB B X a Γ fun d Γ1 => notI d = true ∧ φ (.bool (isD "int" d)) Γ1) : GE B X (.Call (.Name x p) [a, .Name y py] [] pos) Γ φ := by
  subst hy
  exact ge_isi (T := "int") hx hg hm gy my (by decide +kernel) (by decide) h (by decide) (by decide) he he2 hpl
theorem isi_bool {x y : Str} {p py : Pos} {a : Expr} {φ : PyData → List Sl → Prop} (hx : x = "isinstance") (hy : y = "bool") (hg : Gl X x) (hm : X.mg x = none) (gy : Gl X y) (my : X.mg y = none) (he : starEach [a, .Name y py] X.env = (false, eval a X.env) :: starEach [.Name y py] X.env) (he2 : starEach [.Name y py] X.env = (false, eval (.Name y py) X.env) :: starEach [] X.env) (hpl : (backTo pos (starEach [.Name y py] X.env)).any (·.1) = false) (h : GB B X a Γ fun d Γ1 => notI d = true ∧ φ (.bool (isD "bool" d)) Γ1) : GE B X (.Call (.Name x p) [a, .Name y py] [] pos) Γ φ := by
  subst hy
  exact ge_isi (T := "bool") hx hg hm gy my (by decide +kernel) (by decide) h (by decide) (by decide) he he2 hpl
theorem isi_tuple {x y : Str} {p py : Pos} {a : Expr} {φ : PyData → List Sl → Prop} (hx : x = "isinstance") (hy : y = "tuple") (hg : Gl X x) (hm : X.mg x = none) (gy : Gl X y) (my : X.mg y = none) (he : starEach [a, .Name y py] X.env = (false, eval a X.env) :: starEach [.Name y py] X.env) (he2 : starEach [.Name y py] X.env = (false, eval (.Name y py) X.env) :: starEach [] X.env) (hpl : (backTo pos (starEach [.Name y py] X.env)).any (·.1) = false) (h : GB B X a Γ fun d Γ1 => notI d = true ∧ φ (.bool (isD "tuple" d)) Γ1) : GE B X (.Call (.Name x p) [a, .Name y py] [] pos) Γ φ := by
  subst hy
  exact ge_isi (T := "tuple") hx hg hm gy my (by decide +kernel) (by decide) h (by decide) (by decide) he he2 hpl
theorem isi_str {x y : Str} {p py : Pos} {a : Expr} {φ : PyData → List Sl → Prop} (hx : x = "isinstance") (hy : y = "str") (hg : Gl X x) (hm : X.mg x = none) (gy : Gl X y) (my : X.mg y = none) (he : starEach [a, .Name y py] X.env = (false, eval a X.env) :: starEach [.Name y py] X.env) (he2 : starEach [.Name y py] X.env = (false, eval (.Name y py) X.env) :: starEach [] X.env) (hpl : (backTo pos (starEach [.Name y py] X.env)).any (·.1) = false) (h : GB B X a Γ fun d Γ1 => notI d = true ∧ φ (.bool (isD "str" d)) Γ1) : GE B X (.Call (.Name x p) [a, .Name y py] [] pos) Γ φ := by
  subst hy
  exact ge_isi (T := "str") hx hg hm gy my (by decide +kernel) (by decide) h (by decide) (by decide) he he2 hpl
theorem ge_lele {a b c : Expr} {φ : PyData → List Sl → Prop} (hm : lastMarks [.LtE, .LtE] [b, c] = false) (h : GE B X a Γ fun d1 Γ1 => GE B X b Γ1 fun d2 Γ2 => LeD d1 d2 fun t => if t = true then GE B X c Γ2 fun d3 Γ3 => LeD d2 d3 fun u => φ (.bool u) Γ3 else φ (.bool false) Γ2) : GE B X (.Compare a [.LtE, .LtE] [b, c] pos) Γ φ := ge_chain op_le op_le LeD LeD sem_ord sem_ord h hm
end
end Px
/-! Sequences that stay: two walked at once; tuples that are written at a module's top. -/
namespace Px
open PySem PySem.Spec PyProof.Rows L2 Tc Tz
variable [Px.Fld]
/-- while the slots keep what is asked, the items stand there -/
def Pers (K : PySem.W.Frag) (keep : List Sl → Prop) (k : Bool) (Hs1 : Hp) (a : Addr) (ds : List PyData) : Prop := ∀ (B : Bas) (Hs : Hp) (σ : L2.St) (H : Hp) (Γ : List Sl), keep Γ → Same Hs1 Hs → Sx B Hs σ H Γ → ∃ vs, SqX k K H a vs ∧ DvAll Hs vs ds
theorem Pers.mono {K : PySem.W.Frag} {keep : List Sl → Prop} {k : Bool} {Hs1 Hs2 : Hp} {a : Addr} {ds : List PyData} (p : Pers K keep k Hs1 a ds) (s : Same Hs1 Hs2) : Pers K keep k Hs2 a ds := fun B Hs σ H Γ kp s2 S => p B Hs σ H Γ kp (s.trans s2) S
def GS (B : Bas) (X : Cx) (k : Bool) (e : Expr) (Γ : List Sl) (φ : List PyData → (List Sl → Prop) → List Sl → Prop) : Prop := ∀ (Hs : Hp) (σ : L2.St) (H : Hp) (Q : VK), Sx B Hs σ H Γ →
  (∀ ds keep Γ' a Hs' H', φ ds keep Γ' → Same Hs Hs' → Sx B Hs' σ H' Γ' → Pers X.K keep k Hs' a ds → Q (.ref a) H') → teW X e σ H Q
section
variable {B : Bas} {X : Cx} {Γ : List Sl} {pos : Pos} {E : DE} {P : Program} {w : World} {K : PySem.W.Frag} {mg : Str → Option Value} {base : Heap} {tg : Expr}
theorem gs_list {e : Expr} {φ : List PyData → (List Sl → Prop) → List Sl → Prop} (h : GE B X e Γ fun d Γ1 => ∃ ds, d = .list ds ∧ φ ds (fun _ => True) Γ1) : GS B X true e Γ φ := fun Hs σ H Q S g => h Hs σ H Q S fun d Γ1 v Hs1 H1 ⟨ds, e, p⟩ s S1 q => by
  subst e
  cases q with
  | lst r a => exact g ds _ Γ1 _ Hs1 H1 p s S1 fun B2 Hs2 σ2 H2 Γ2 _ s2 S2 => ⟨_, rdL (rd_up S2.sub (rd_up s2 r)), a.mono s2⟩
theorem gs_tup {e : Expr} {φ : List PyData → (List Sl → Prop) → List Sl → Prop} (h : GE B X e Γ fun d Γ1 => ∃ ds, d = .tuple ds ∧ φ ds (fun _ => True) Γ1) : GS B X false e Γ φ := fun Hs σ H Q S g => h Hs σ H Q S fun d Γ1 v Hs1 H1 ⟨ds, e, p⟩ s S1 q => by
  subst e
  cases q with
  | tup r a => exact g ds _ Γ1 _ Hs1 H1 p s S1 fun B2 Hs2 σ2 H2 Γ2 _ s2 S2 => ⟨_, rdT (rd_up S2.sub (rd_up s2 r)), a.mono s2⟩
theorem pers_q {k : Bool} {Hs H : Hp} {σ : L2.St} {keep : List Sl → Prop} {a : Addr} {ds : List PyData} (p : Pers X.K keep k Hs a ds) (S : Sx B Hs σ H Γ) (kp : keep Γ) : ∃ vs, SqX k X.K H a vs ∧ DvAll Hs vs ds := p B Hs σ H Γ kp (Same.refl _) S
/-! ### zip -/
theorem its_zip {k kk : Bool} {K : PySem.W.Frag} {keep keep2 : List Sl → Prop} {Hs : Hp} {a b : Addr} {ds es : List PyData} (p : Pers K keep k Hs a ds) (q : Pers K keep2 kk Hs b es) {n : Nat} (hn : n = min ds.length es.length) :
    Its (fun Γ => keep Γ ∧ keep2 Γ) Hs (Itm K k kk a b) n (fun i => .tuple [nth ds i, nth es i]) := by
  subst hn
  refine ⟨fun H => ∃ us vs, SqX k K H a us ∧ SqX kk K H b vs ∧ us.length = ds.length ∧ vs.length = es.length, (Itm K k kk a b).yld, ⟨?_, ?_, fun _ _ _ _ _ _ y => y⟩, ?_, ?_⟩
  · rintro i H hi ⟨us, vs, q1, q2, l1, l2⟩
    exact ⟨us, vs, us[i]'(by omega), vs[i]'(by omega), q1, q2, by simp [show i < us.length by omega], by simp [show i < vs.length by omega]⟩
  · rintro H ⟨us, vs, q1, q2, l1, l2⟩
    exact ⟨us, vs, q1, q2, by omega⟩
  · rintro B2 Hs2 σ H Γ ⟨k1, k2⟩ s S
    obtain ⟨us, q1, d1⟩ := p B2 Hs2 σ H Γ k1 s S
    obtain ⟨vs, q2, d2⟩ := q B2 Hs2 σ H Γ k2 s S
    exact ⟨us, vs, q1, q2, d1.len, d2.len⟩
  · rintro B2 i Hs2 σ H Γ x H' hi ⟨k1, k2⟩ s S ⟨c, y, z, rfl, hc, rfl, g1, g2⟩
    obtain ⟨us, q1, d1⟩ := p B2 Hs2 σ H Γ k1 s S
    obtain ⟨vs, q2, d2⟩ := q B2 Hs2 σ H Γ k2 s S
    obtain ⟨d, e1, v1⟩ := dvs_get' d1 (g1 us q1)
    obtain ⟨e, e2, v2⟩ := dvs_get' d2 (g2 vs q2)
    obtain ⟨kk2, T⟩ := S.new (o := .tup [y, z]) hc
    refine ⟨_, kk2, T, ?_⟩
    show Dv _ _ (.tuple [nth ds i, nth es i])
    rw [nth_at e1, nth_at e2]
    exact .tup (.inl upd_same) (.cons (v1.mono kk2) (.cons (v2.mono kk2) .nil))
theorem gi_zip (k kk : Bool) {x : Str} {p tpos : Pos} {e f : Expr} {elts : List Expr} {n1 : Nat} {φ : Nat → (Nat → PyData) → (List Sl → Prop) → List Sl → Prop} (hx : x = "zip") (hg : Gl X x) (hm : X.mg x = none)
    (hs : starEach [e, f] X.env = (false, eval e X.env) :: starEach [f] X.env) (hs2 : starEach [f] X.env = (false, eval f X.env) :: starEach [] X.env) (hpl : (backTo pos (starEach [f] X.env)).any (·.1) = false)
    (h : GS B X k e Γ fun ds keep Γ1 => GS B X kk f Γ1 fun es keep2 Γ2 => keep Γ2 ∧ keep2 Γ2 ∧ φ (min ds.length es.length) (fun i => .tuple [nth ds i, nth es i]) (fun Γ => keep Γ ∧ keep2 Γ) Γ2) : GI B X (.Tuple elts n1 tpos) (.Call (.Name x p) [e, f] [] pos) Γ φ := by
  subst hx
  intro Hs σ H R S g
  have args : ∀ (Q : List V → Hp → Prop), (∀ (a b : Addr) ds es keep keep2 Γ2 Hs2 H2, Same Hs Hs2 → Sx B Hs2 σ H2 Γ2 → Pers X.K keep k Hs2 a ds → Pers X.K keep2 kk Hs2 b es → keep Γ2 → keep2 Γ2 → φ (min ds.length es.length) (fun i => .tuple [nth ds i, nth es i]) (fun Γ => keep Γ ∧ keep2 Γ) Γ2 → Q [.ref a, .ref b] H2) → taW X [e, f] σ H Q := fun Q fin =>
    pa_of (pa_cons pe_W (pa_cons pe_W pa_nil hs2) hs) (h Hs σ H _ S fun ds keep Γ1 a Hs1 H1 p1 s1 S1 pr1 => p1 Hs1 σ H1 _ S1 fun es keep2 Γ2 b Hs2 H2 ⟨k1, k2, p2⟩ s2 S2 pr2 => fin a b ds es keep keep2 Γ2 Hs2 H2 (s1.trans s2) S2 (pr1.mono s2) pr2 k1 k2 p2)
  cases k with
  | true =>
    cases kk with
    | true => exact pi_of (RZ.pi_zipA hg hm pa_W hs hpl) (args _ fun a b ds es keep keep2 Γ2 Hs2 H2 s2 S2 pr1 pr2 k1 k2 p2 => by
        obtain ⟨us, q1, d1⟩ := pers_q pr1 S2 k1
        obtain ⟨vs, q2, d2⟩ := pers_q pr2 S2 k2
        exact ⟨a, b, us, vs, rfl, .inl ⟨q1, q2, g _ _ _ Γ2 _ Hs2 H2 p2 s2 S2 (its_zip (k := true) (kk := true) pr1 pr2 rfl)⟩⟩)
    | false => exact pi_of (pi_zipM hg hm pa_W hs hpl) (args _ fun a b ds es keep keep2 Γ2 Hs2 H2 s2 S2 pr1 pr2 k1 k2 p2 => by
        obtain ⟨us, q1, d1⟩ := pers_q pr1 S2 k1
        obtain ⟨vs, q2, d2⟩ := pers_q pr2 S2 k2
        exact ⟨true, false, a, b, us, vs, rfl, by decide, q1, q2, g _ _ _ Γ2 _ Hs2 H2 p2 s2 S2 (its_zip pr1 pr2 rfl)⟩)
  | false =>
    cases kk with
    | true => exact pi_of (pi_zipM hg hm pa_W hs hpl) (args _ fun a b ds es keep keep2 Γ2 Hs2 H2 s2 S2 pr1 pr2 k1 k2 p2 => by
        obtain ⟨us, q1, d1⟩ := pers_q pr1 S2 k1
        obtain ⟨vs, q2, d2⟩ := pers_q pr2 S2 k2
        exact ⟨false, true, a, b, us, vs, rfl, by decide, q1, q2, g _ _ _ Γ2 _ Hs2 H2 p2 s2 S2 (its_zip pr1 pr2 rfl)⟩)
    | false => exact pi_of (RZ.pi_zipA hg hm pa_W hs hpl) (args _ fun a b ds es keep keep2 Γ2 Hs2 H2 s2 S2 pr1 pr2 k1 k2 p2 => by
        obtain ⟨us, q1, d1⟩ := pers_q pr1 S2 k1
        obtain ⟨vs, q2, d2⟩ := pers_q pr2 S2 k2
        exact ⟨a, b, us, vs, rfl, .inr ⟨q1, q2, g _ _ _ Γ2 _ Hs2 H2 p2 s2 S2 (its_zip (k := false) (kk := false) pr1 pr2 rfl)⟩⟩)
end
end Px
/-! Comprehensions that only look; further operators. -/
namespace Px
open PySem PySem.Spec PyProof.Rows L2 Tc Tz
variable [Px.Fld]
theorem clr_clr (Γ : List Sl) (vs : List Nat) : clr (clr Γ vs) vs = clr Γ vs := by
  refine List.ext_getElem? fun j => ?_
  by_cases e : j ∈ vs
  · by_cases l : j < Γ.length
    · have h1 : ∃ s, (clr (clr Γ vs) vs)[j]? = some s := ⟨_, List.getElem?_eq_getElem (by rw [clr_len, clr_len]; exact l)⟩
      have h2 : ∃ s, (clr Γ vs)[j]? = some s := ⟨_, List.getElem?_eq_getElem (by rw [clr_len]; exact l)⟩
      obtain ⟨s, h1⟩ := h1
      obtain ⟨t, h2⟩ := h2
      rw [h1, h2, clr_in e h1, clr_in e h2]
    · rw [List.getElem?_eq_none (by rw [clr_len, clr_len]; omega), List.getElem?_eq_none (by rw [clr_len]; omega)]
  · exact clr_out e
section
variable {B : Bas} {X : Cx} {Γ : List Sl} {pos : Pos} {k : Nat}
/-- [elt for t in iter if ..] that leaves the slots as they are: p tells which items, F what of them -/
theorem gf_look {elt t iter : Expr} {ifs : List Expr} {scope : Scope} {own : List (Str × Nat)} {φ : List PyData → List Sl → Prop} (calm : X.calm = true) (nd : X.N.Nodup) (ok : blkC X.N X.env.scope scope own = true)
    (hs : ∀ x, foldedSetIterable iter X.env x = pure x)
    (h : GI B X t iter Γ fun n f keep Γ1 => keep (clr Γ1 (own.map (·.2))) ∧ n ≤ sizeLine ∧ ∃ (p : Nat → Bool) (F : Nat → PyData),
      (∀ i, i < n → ∀ B', Blk X scope fun Y => GC B' Y (own.map (·.2)) t (f i) (clr Γ1 (own.map (·.2))) fun Γ2 => Blk X scope fun Y => GP B' Y ifs Γ2 fun b Γ3 => b = p i ∧ if b = true then Blk X scope fun Y => GE B' Y elt Γ3 fun d Γ4 => d = F i ∧ clr Γ4 (own.map (·.2)) = clr Γ1 (own.map (·.2)) else clr Γ3 (own.map (·.2)) = clr Γ1 (own.map (·.2))) ∧
      φ (((List.range n).filter p).map F) (clr Γ1 (own.map (·.2)))) : GF B X (.ListComp elt [⟨t, iter, ifs, 0⟩] scope pos) Γ φ := by
  refine gf_lc calm nd (blkOk_by ok) (hs := hs) fun Hs σ H R S g => h Hs σ H R S fun n f keep Γ1 J Hs1 H1 ⟨kp, hn, p, F, step, fin⟩ s S1 it => g n f keep Γ1 J Hs1 H1 ?_ s S1 it
  refine ⟨fun i acc Γ' => Γ' = clr Γ1 (own.map (·.2)) ∧ acc = ((List.range i).filter p).map F, ⟨rfl, rfl⟩, fun i acc Γ' _ ⟨e, _⟩ => e ▸ kp, ?_, ?_⟩
  · rintro i acc Γ' hi ⟨rfl, rfl⟩ B' s0 H0 C cl fp
    rw [clr_clr]
    intro Hs2 σ2 H2 v Q S2 dv g2
    refine step i hi B' s0 H0 C cl fp Hs2 σ2 H2 v Q S2 dv fun Γ2 Hs3 σ3 H3 p2 s3 S3 w3 => g2 Γ2 Hs3 σ3 H3 (fun s0 H0 C cl fp => ?_) s3 S3 w3
    intro Hs4 σ4 H4 Q4 S4 g4
    refine p2 s0 H0 C cl fp Hs4 σ4 H4 Q4 S4 fun b Γ3 Hs5 H5 ⟨eb, p3⟩ s5 S5 => g4 b Γ3 Hs5 H5 ?_ s5 S5
    have len : (((List.range i).filter p).map F).length < sizeLine := by
      rw [List.length_map]
      exact Nat.lt_of_le_of_lt (List.length_filter_le _ _) (by rw [List.length_range]; omega)
    cases b with
    | false =>
      refine iteF ⟨p3, ?_⟩
      rw [List.range_succ, List.filter_append, List.map_append, show [i].filter p = [] by simp [← eb]]
      simp
    | true =>
      have p3 : Blk X scope fun Y => GE B' Y elt Γ3 fun d Γ4 => d = F i ∧ clr Γ4 (own.map (·.2)) = clr Γ1 (own.map (·.2)) := p3
      refine iteT fun s0 H0 C cl fp Hs6 σ6 H6 Q6 S6 g6 => p3 s0 H0 C cl fp Hs6 σ6 H6 Q6 S6 fun d Γ4 v7 Hs7 H7 ⟨ed, ec⟩ s7 S7 q7 => g6 d Γ4 v7 Hs7 H7 ⟨len, ec, ?_⟩ s7 S7 q7
      rw [List.range_succ, List.filter_append, List.map_append, show [i].filter p = [i] by simp [← eb], ed]
      rfl
  · rintro acc Γ' ⟨rfl, rfl⟩
    exact fin
end
theorem range_items (ds : List PyData) : (List.range ds.length).map (nth ds) = ds := by
  refine List.ext_getElem? fun j => ?_
  rw [List.getElem?_map]
  by_cases l : j < ds.length
  · rw [List.getElem?_range l]
    have e : ds[j]? = some ds[j] := List.getElem?_eq_getElem l
    rw [e]
    show some (nth ds j) = _
    rw [nth_at e]
  · rw [List.getElem?_eq_none (by rw [List.length_range]; omega), List.getElem?_eq_none (by omega)] <;> rfl
theorem range_nth (p : PyData → Bool) (F : PyData → PyData) (ds : List PyData) : ((List.range ds.length).filter fun i => p (nth ds i)).map (fun i => F (nth ds i)) = (ds.filter p).map F := by
  have e : ((List.range ds.length).filter fun i => p (nth ds i)).map (fun i => F (nth ds i)) = (((List.range ds.length).map (nth ds)).filter p).map F := by
    rw [List.filter_map, List.map_map]
    rfl
  rw [e, range_items]
theorem range_map (F : PyData → PyData) (ds : List PyData) : ((List.range ds.length).filter fun _ => true).map (fun i => F (nth ds i)) = ds.map F := by
  have z := range_nth (fun _ => true) F ds
  rw [show ds.filter (fun _ => true) = ds from List.filter_eq_self.mpr fun _ _ => rfl] at z
  exact z
section
variable {B : Bas} {X : Cx} {Γ : List Sl} {pos : Pos} {k : Nat} {a b : Expr} {φ : PyData → List Sl → Prop}
theorem ge_neg (h : GE B X a Γ fun d Γ1 => ∃ i : Int, d = .int i ∧ φ (.int (-i)) Γ1) : GE B X (.UnaryOp .USub a pos) Γ φ := fun Hs σ H Q S g =>
  pe_of (pe_un un_neg pe_W) (h Hs σ H _ S fun d Γ1 v Hs1 H1 ⟨i, e, p⟩ s S1 q => by
    subst e
    cases q
    exact ⟨i, rfl, g _ Γ1 _ Hs1 H1 p s S1 (.int _)⟩)
/-- x in a sequence of plain things -/
def plainD : PyData → Bool
  | .none | .bool _ | .int _ | .str _ => true
  | _ => false
theorem plain_v {H : Hp} {v : V} {d : PyData} (q : Dv H v d) : flatV v = plainD d := by cases q <;> rfl
theorem plain_eq {H : Hp} {v u : V} {d e : PyData} (q : Dv H v d) (r : Dv H u e) (h : plainD d = true) (h2 : plainD e = true) : eqV v u = PyData.eqv d e := by
  cases q <;> cases r <;> first | rfl | exact Bool.noConfusion h | exact Bool.noConfusion h2
theorem plains {H : Hp} : ∀ {vs : List V} {ds : List PyData}, DvAll H vs ds → vs.all flatV = ds.all plainD
  | _, _, .nil => rfl
  | _, _, .cons a r => by rw [List.all_cons, List.all_cons, plain_v a, plains r]
theorem plain_in {H : Hp} {v : V} {d : PyData} (q : Dv H v d) (h : plainD d = true) : ∀ {vs : List V} {ds : List PyData}, DvAll H vs ds → ds.all plainD = true → inV v vs = ds.any fun z => PyData.eqv z d
  | _, _, .nil, _ => rfl
  | _, _, .cons a r, hp => by
    rw [List.all_cons, Bool.and_eq_true] at hp
    show (eqV _ v || inV v _) = _
    rw [List.any_cons, plain_eq a q hp.1 h, plain_in q h r hp.2]
def InD (d : PyData) (ds : List PyData) (k : Bool → Prop) : Prop := plainD d = true ∧ ds.all plainD = true ∧ k (ds.any fun z => PyData.eqv z d)
theorem gt_in (kq : Bool) {ψ : Bool → List Sl → Prop} (hm : behindInMarks .In b = false) (h : GE B X a Γ fun d Γ1 => GQ B X kq b Γ1 fun ds Γ2 => InD d ds fun c => ψ c Γ2) : GT B X (.Compare a [.In] [b] pos) Γ ψ := fun Hs σ H Q S g =>
  pt_of (pt_cmpR op_in_seq pe_W pe_W hm) (h Hs σ H _ S fun d Γ1 v Hs1 H1 p s1 S1 q1 => p Hs1 σ H1 _ S1 fun ds Γ2 c vs Hs2 H2 ⟨pd, pa, p2⟩ s2 S2 hq dv => by
    have q2 := q1.mono s2
    refine ⟨c, vs, rfl, by cases kq with | true => exact .inl hq | false => exact .inr hq, (plain_v q2).trans pd, (plains dv).trans pa, _, rfl, ?_⟩
    show Q (inV v vs) H2
    rw [plain_in q2 pd dv pa]
    exact g _ Γ2 Hs2 H2 p2 (s1.trans s2) S2)
theorem gt_notin (kq : Bool) {ψ : Bool → List Sl → Prop} (hm : behindInMarks .NotIn b = false) (h : GE B X a Γ fun d Γ1 => GQ B X kq b Γ1 fun ds Γ2 => InD d ds fun c => ψ (!c) Γ2) : GT B X (.Compare a [.NotIn] [b] pos) Γ ψ := fun Hs σ H Q S g =>
  pt_of (pt_cmpR op_notIn_seq pe_W pe_W hm) (h Hs σ H _ S fun d Γ1 v Hs1 H1 p s1 S1 q1 => p Hs1 σ H1 _ S1 fun ds Γ2 c vs Hs2 H2 ⟨pd, pa, p2⟩ s2 S2 hq dv => by
    have q2 := q1.mono s2
    refine ⟨c, vs, rfl, by cases kq with | true => exact .inl hq | false => exact .inr hq, (plain_v q2).trans pd, (plains dv).trans pa, _, rfl, ?_⟩
    show Q (!inV v vs) H2
    rw [plain_in q2 pd dv pa]
    exact g _ Γ2 Hs2 H2 p2 (s1.trans s2) S2)
end
end Px
/-! Small steps on data, for the automatic run. -/
namespace Px
open PySem PySem.Spec PyProof.Rows L2 Tc
variable [Px.Fld]
theorem to_ok {d : PyData} {a : PyData → Prop} {b : Addr → PyData → Prop} (h : a d) : (Out.ok d).to a b := h
theorem ite_t {c a b : Prop} {i : Decidable c} (hc : c) (h : a) : @ite Prop c i a b := by
  rw [if_pos hc]
  exact h
theorem ite_f {c a b : Prop} {i : Decidable c} (hc : ¬c) (h : b) : @ite Prop c i a b := by
  rw [if_neg hc]
  exact h
theorem yes_nf : (!false) = true := rfl
theorem no_nt : ¬((!true) = true) := fun e => Bool.noConfusion e
theorem no_ft : ¬(false = true) := fun e => Bool.noConfusion e
theorem eqv_int (i j : Int) : PyData.eqv (.int i) (.int j) = decide (i = j) := by
  first | rfl | simp [PyData.eqv]
theorem eqv_str (x y : Str) : PyData.eqv (.str x) (.str y) = decide (x = y) := by
  first | rfl | simp [PyData.eqv]
theorem all_map {ds : List PyData} {g : PyData → Bool} {k : PyData → Prop} (h : k (.bool (ds.all g))) : AllD (.list (ds.map fun d => .bool (g d))) k := by
  refine ⟨ds.map g, by rw [List.map_map] <;> rfl, ?_⟩
  rw [List.all_map]
  exact h
theorem all_look {ds : List PyData} {g : PyData → Bool} {k : PyData → Prop} (h : k (.bool (ds.all g))) : AllD (.list (((List.range ds.length).filter fun _ => true).map fun i => .bool (g (nth ds i)))) k := by
  rw [range_map (fun d => .bool (g d)) ds]
  exact all_map h
def asI : PyData → Int
  | .int i => i
  | _ => 0
def isI : PyData → Bool
  | .int _ => true
  | _ => false
theorem ints_of : ∀ {ds : List PyData}, ds.all isI = true → ds = (ds.map asI).map .int
  | [], _ => rfl
  | d :: ds, h => by
    rw [List.all_cons] at h
    obtain ⟨a, b⟩ := (Bool.and_eq_true _ _).mp h
    cases d with
    | int i => exact congrArg (PyData.int i :: ·) (ints_of b)
    | _ => cases a
theorem sum_tup {ds : List PyData} {k : PyData → Prop} (a : ds.all isI = true) (h : k (.int (ds.map asI).sum)) : SumD (.tuple ds) k := ⟨ds.map asI, .inr (congrArg PyData.tuple (ints_of a)), h⟩
theorem sum_lst {ds : List PyData} {k : PyData → Prop} (a : ds.all isI = true) (h : k (.int (ds.map asI).sum)) : SumD (.list ds) k := ⟨ds.map asI, .inl (congrArg PyData.list (ints_of a)), h⟩
theorem all_rng {n : Nat} {g : Nat → Bool} {k : PyData → Prop} (h : k (.bool ((List.range n).all g))) : AllD (.list (((List.range n).filter fun _ => true).map fun i => .bool (g i))) k := by
  refine ⟨(List.range n).map g, ?_, ?_⟩
  · rw [List.map_map, List.filter_eq_self.mpr fun _ _ => rfl] <;> rfl
  · rw [List.all_map]
    exact h
def strL (l : List Str) : List PyData := l.map .str
theorem strs_plain : ∀ l : List Str, (strL l).all plainD = true
  | [] => rfl
  | _ :: l => strs_plain l
def LocB (sc : Scope) (x : Str) : Bool := match sc.names.lookup x with
  | some .local | some .cell => true
  | _ => false
theorem locB_ok {sc : Scope} {x : Str} (h : LocB sc x = true) : Loc sc x := by
  unfold LocB at h
  split at h
  · exact .inl ‹_›
  · exact .inr ‹_›
  · cases h
theorem Cxt.blk {X : Cx} {k : Nat} (c : Cxt X k) (scope : Scope) (s : Shared) (H : Hp) (C : Addr) (cl : List (Str × Addr)) (fp : List Addr) : Cxt (blkX X scope s H C cl fp) k := ⟨c.room, c.gd, c.sm⟩
/-- the block's own names, with their slots -/
def ownS (N : List Str) (sc : Scope) : List (Str × Nat) := sc.names.filterMap fun e => match e.2 with
  | .local | .cell => (idxS N e.1).map fun i => (e.1, i)
  | _ => none
section
variable {B : Bas} {X : Cx} {Γ : List Sl} {pos : Pos} {k : Nat} {vs : List Nat}
/-- a comprehension's name is set -/
theorem gc_n {N : List Str} (nd : N.Nodup) (eN : X.N = N) {i : Nat} {x : Str} {d : PyData} {φ : List Sl → Prop} (hi : idxS X.N x = some i) (hx : LocB X.env.scope x = true) (hf : X.fn x = true ∨ X.env.scope.names.lookup x = some .local) (hm : vs.contains i = true)
    (h : Nat.ble (i + 1) Γ.length = true ∧ φ (Γ.set i (.d d))) : GC B X vs (.Name x pos) d Γ φ :=
  gc_name (eN ▸ nd) i (idxS_ok hi) (locB_ok hx) (List.contains_iff_mem.mp hm) ⟨Nat.le_of_ble_eq_true h.1, h.2⟩ hf
theorem gcs_n {N : List Str} (nd : N.Nodup) (eN : X.N = N) {i : Nat} {x : Str} {p : Pos} {d : PyData} {ts : List Expr} {ds : List PyData} {φ : List Sl → Prop} (hi : idxS X.N x = some i) (hx : LocB X.env.scope x = true) (hf : X.fn x = true ∨ X.env.scope.names.lookup x = some .local) (hm : vs.contains i = true)
    (h : Nat.ble (i + 1) Γ.length = true ∧ GCs B X vs ts ds (Γ.set i (.d d)) φ) (hs : (assignEach (.Name x p :: ts) X.env).map (·.2) = assign (.Name x p) X.env :: (assignEach ts X.env).map (·.2)) : GCs B X vs (.Name x p :: ts) (d :: ds) Γ φ :=
  gcs_cons _ (gc_n nd eN hi hx hf hm ⟨h.1, rfl⟩) h.2 hs
theorem gc_t (calm : X.calm = true) {ts : List Expr} {n1 : Nat} {ds : List PyData} {φ : List Sl → Prop} {n : Nat} (hn : (assignEach ts X.env).length = n) (hl : ds.length = n) (hst : (assignEach ts X.env).findIdx? (·.1) = none) (h : GCs B X vs ts ds Γ φ) : GC B X vs (.Tuple ts n1 pos) (.tuple ds) Γ φ := gc_tup calm h hn hl hst
theorem gf_lk {N : List Str} {elt t iter : Expr} {ifs : List Expr} {scope : Scope} {φ : List PyData → List Sl → Prop} (calm : X.calm = true) (nd : N.Nodup) (eN : X.N = N) {own : List (Str × Nat)} (eo : ownS N scope = own) (ok : blkC N X.env.scope scope own = true)
    (hs : ∀ x, foldedSetIterable iter X.env x = pure x)
    (h : GI B X t iter Γ fun n f keep Γ1 => keep (clr Γ1 (own.map (·.2))) ∧ n ≤ sizeLine ∧ ∃ (p : Nat → Bool) (F : Nat → PyData),
      (∀ i, i < n → ∀ B', Blk X scope fun Y => GC B' Y (own.map (·.2)) t (f i) (clr Γ1 (own.map (·.2))) fun Γ2 => Blk X scope fun Y => GP B' Y ifs Γ2 fun b Γ3 => b = p i ∧ if b = true then Blk X scope fun Y => GE B' Y elt Γ3 fun d Γ4 => d = F i ∧ clr Γ4 (own.map (·.2)) = clr Γ1 (own.map (·.2)) else clr Γ3 (own.map (·.2)) = clr Γ1 (own.map (·.2))) ∧
      φ (((List.range n).filter p).map F) (clr Γ1 (own.map (·.2)))) : GF B X (.ListComp elt [⟨t, iter, ifs, 0⟩] scope pos) Γ φ := gf_look calm (eN ▸ nd) (eN.symm ▸ ok) hs h
end
end Px
/-! name = [..] -/
namespace Px
open PySem PySem.Spec PyProof.Rows L2 Tc
variable [Px.Fld]
section
variable {B : Bas} {X : Cx} {Γ : List Sl} {pos : Pos} {k : Nat}
theorem lc_t {elt t iter : Expr} {ifs : List Expr} {scope : Scope} {own : List (Str × Nat)} {φ : List PyData → List Sl → Prop} 
    (h : GI B X t iter Γ fun n f keep Γ1 => ∃ I : Nat → List PyData → List Sl → Prop, I 0 [] (clr Γ1 (own.map (·.2))) ∧ (∀ i acc Γ, i ≤ n → I i acc Γ → keep Γ) ∧
      (∀ i acc Γ, i < n → I i acc Γ → ∀ B', Blk X scope fun Y => GC B' Y (own.map (·.2)) t (f i) (clr Γ (own.map (·.2))) fun Γ2 => Blk X scope fun Y => GP B' Y ifs Γ2 fun b Γ3 => if b = true then Blk X scope fun Y => GE B' Y elt Γ3 fun d Γ4 => acc.length < sizeLine ∧ I (i + 1) (acc ++ [d]) (clr Γ4 (own.map (·.2))) else I (i + 1) acc (clr Γ3 (own.map (·.2)))) ∧
      ∀ acc Γ, I n acc Γ → φ acc Γ)
    {Hs : Hp} {σ : L2.St} {H : Hp} {Q : VK} (S : Sx B Hs σ H Γ) (g : ∀ ds Γ' a vs Hs' H', φ ds Γ' → Same Hs Hs' → Sx B Hs' σ H' Γ' → B.fr a = none → Hs' a = none → Alone Γ' a → H' a = some (.lst vs) → DvAll Hs' vs ds → Q (.ref a) H') :
    tLc (tiW X t iter) (tgB X scope t) (tpB X scope ifs) (teB X scope elt) (own.map (·.2)) σ H Q :=
  h Hs σ H _ S fun n f keep Γ1 J Hs1 H1 ⟨I, i0, ik, step, done⟩ s S1 ⟨G, Y, w, wg, wy⟩ D hD => by
      obtain ⟨fD, nD, al⟩ := alone_new S1 hD
      refine lc_it w (fun i H' => ∃ acc vs Γ' Hs', I i acc Γ' ∧ Same Hs1 Hs' ∧ Sx B Hs' σ H' Γ' ∧ H' D = some (.lst vs) ∧ DvAll Hs' vs acc ∧ Hs' D = none ∧ Alone Γ' D) ⟨[], [], _, Hs1, i0, Same.refl _, (S1.aside hD).clr rfl (fun _ _ => rfl), upd_same, .nil, nD, fun i b es e => al i b es (clr_some e fun z => nomatch z).2⟩ ?_ ?_ ?_
      · rintro i H' hi ⟨acc, vs, Γ', Hs', p, s', S', _⟩
        exact wg B Hs' σ H' Γ' (ik i acc Γ' hi p) s' S'
      · rintro i x H' H'' hi ⟨acc, vs, Γ', Hs', p, s', S', hD', dv, nD', al'⟩ y
        have SB := S'.hold hD' nD' fD al'
        have g0 : Grow B.fr B.hs Hs' := S'.gr
        obtain ⟨Hs2, s2, S2, dx⟩ := wy _ i Hs' σ H' Γ' x H'' hi (ik i acc Γ' (Nat.le_of_lt hi) p) s' SB y
        have body := step i acc Γ' hi p ⟨upd B.fr D (.lst vs), Hs', B.T⟩
        have S2w : Sx ⟨upd B.fr D (.lst vs), Hs', B.T⟩ Hs2 (wipe σ (own.map (·.2))) H'' (clr Γ' (own.map (·.2))) := S2.clr (wipe_length _ _) fun j hj => wipe_out hj
        have back : ∀ {Γ6 : List Sl} {Hs6 : Hp} {σ6 : L2.St} {H6 : Hp}, wipe σ6 (own.map (·.2)) = wipe σ (own.map (·.2)) → Sx ⟨upd B.fr D (.lst vs), Hs', B.T⟩ Hs6 σ6 H6 Γ6 → Sx B Hs6 σ H6 (clr Γ6 (own.map (·.2))) ∧ H6 D = some (.lst vs) ∧ Hs6 D = none ∧ Alone (clr Γ6 (own.map (·.2))) D := fun {Γ6 Hs6 σ6 H6} w6 S6 => by
          obtain ⟨l, e⟩ := wipe_same w6
          exact (S6.clr (vs := own.map (·.2)) l.symm fun j hj => (e j hj).symm).loose g0 fD nD'
        intro s0 H0 C cl fp
        refine body s0 H0 C cl fp Hs2 (wipe σ (own.map (·.2))) H'' x _ S2w dx fun Γ2 Hs3 σ3 H3 p3 s3 S3 w3 => ?_
        have w3 : wipe σ3 (own.map (·.2)) = wipe σ (own.map (·.2)) := w3.trans (wipe_eq (wipe_length _ _) fun j hj => wipe_out hj)
        refine ⟨w3, fun s0 H0 C cl fp => p3 s0 H0 C cl fp Hs3 σ3 H3 _ S3 fun b Γ3 Hs4 H4 p4 s4 S4 => ?_⟩
        cases b with
        | false =>
          obtain ⟨Sb, hb, nb, ab⟩ := back w3 S4
          have sAll : Same Hs' Hs4 := s2.trans (s3.trans s4)
          exact iteF ⟨acc, vs, _, Hs4, p4, s'.trans sAll, Sb, hb, dv.mono sAll, nb, ab⟩
        | true =>
          have p4 : Blk X scope fun Y => GE _ Y elt Γ3 fun d Γ4 => acc.length < sizeLine ∧ I (i + 1) (acc ++ [d]) (clr Γ4 (own.map (·.2))) := p4
          refine iteT fun s0 H0 C cl fp => p4 s0 H0 C cl fp Hs4 σ3 H4 _ S4 fun d Γ5 v5 Hs5 H5 ⟨hl, p5⟩ s5 S5 q5 => ?_
          obtain ⟨Sb, hb, nb, ab⟩ := back w3 S5
          have sAll : Same Hs' Hs5 := s2.trans (s3.trans (s4.trans s5))
          exact ⟨vs, hb, by rw [dv.len]; exact hl, acc ++ [d], vs ++ [v5], _, Hs5, p5, s'.trans sAll, Sb.beside hb rfl nb fD ab, upd_same, dvs_snoc (dv.mono sAll) q5, nb, ab⟩
      · rintro H' ⟨acc, vs, Γ', Hs', p, s', S', hD', dv, nD', al'⟩
        exact g acc Γ' D vs Hs' H' (done acc Γ' p) (s.trans s') S' fD nD' al' hD' dv
theorem lk_t {elt t iter : Expr} {ifs : List Expr} {scope : Scope} {own : List (Str × Nat)} {φ : List PyData → List Sl → Prop}
    (h : GI B X t iter Γ fun n f keep Γ1 => keep (clr Γ1 (own.map (·.2))) ∧ n ≤ sizeLine ∧ ∃ (p : Nat → Bool) (F : Nat → PyData),
      (∀ i, i < n → ∀ B', Blk X scope fun Y => GC B' Y (own.map (·.2)) t (f i) (clr Γ1 (own.map (·.2))) fun Γ2 => Blk X scope fun Y => GP B' Y ifs Γ2 fun b Γ3 => b = p i ∧ if b = true then Blk X scope fun Y => GE B' Y elt Γ3 fun d Γ4 => d = F i ∧ clr Γ4 (own.map (·.2)) = clr Γ1 (own.map (·.2)) else clr Γ3 (own.map (·.2)) = clr Γ1 (own.map (·.2))) ∧
      φ (((List.range n).filter p).map F) (clr Γ1 (own.map (·.2))))
    {Hs : Hp} {σ : L2.St} {H : Hp} {Q : VK} (S : Sx B Hs σ H Γ) (g : ∀ ds Γ' a vs Hs' H', φ ds Γ' → Same Hs Hs' → Sx B Hs' σ H' Γ' → B.fr a = none → Hs' a = none → Alone Γ' a → H' a = some (.lst vs) → DvAll Hs' vs ds → Q (.ref a) H') :
    tLc (tiW X t iter) (tgB X scope t) (tpB X scope ifs) (teB X scope elt) (own.map (·.2)) σ H Q := by
  refine lc_t (φ := φ) (fun Hs σ H R S g => ?_) S g
  refine h Hs σ H R S fun n f keep Γ1 J Hs1 H1 ⟨kp, hn, p, F, step, fin⟩ s S1 it => g n f keep Γ1 J Hs1 H1 ?_ s S1 it
  refine ⟨fun i acc Γ' => Γ' = clr Γ1 (own.map (·.2)) ∧ acc = ((List.range i).filter p).map F, ⟨rfl, rfl⟩, fun i acc Γ' _ ⟨e, _⟩ => e ▸ kp, ?_, ?_⟩
  · rintro i acc Γ' hi ⟨rfl, rfl⟩ B' s0 H0 C cl fp
    rw [clr_clr]
    intro Hs2 σ2 H2 v Q S2 dv g2
    refine step i hi B' s0 H0 C cl fp Hs2 σ2 H2 v Q S2 dv fun Γ2 Hs3 σ3 H3 p2 s3 S3 w3 => g2 Γ2 Hs3 σ3 H3 (fun s0 H0 C cl fp => ?_) s3 S3 w3
    intro Hs4 σ4 H4 Q4 S4 g4
    refine p2 s0 H0 C cl fp Hs4 σ4 H4 Q4 S4 fun b Γ3 Hs5 H5 ⟨eb, p3⟩ s5 S5 => g4 b Γ3 Hs5 H5 ?_ s5 S5
    have len : (((List.range i).filter p).map F).length < sizeLine := by
      rw [List.length_map]
      exact Nat.lt_of_le_of_lt (List.length_filter_le _ _) (by rw [List.length_range]; omega)
    cases b with
    | false =>
      refine iteF ⟨p3, ?_⟩
      rw [List.range_succ, List.filter_append, List.map_append, show [i].filter p = [] by simp [← eb]]
      simp
    | true =>
      have p3 : Blk X scope fun Y => GE B' Y elt Γ3 fun d Γ4 => d = F i ∧ clr Γ4 (own.map (·.2)) = clr Γ1 (own.map (·.2)) := p3
      refine iteT fun s0 H0 C cl fp Hs6 σ6 H6 Q6 S6 g6 => p3 s0 H0 C cl fp Hs6 σ6 H6 Q6 S6 fun d Γ4 v7 Hs7 H7 ⟨ed, ec⟩ s7 S7 q7 => g6 d Γ4 v7 Hs7 H7 ⟨len, ec, ?_⟩ s7 S7 q7
      rw [List.range_succ, List.filter_append, List.map_append, show [i].filter p = [i] by simp [← eb], ed]
      rfl
  · rintro acc Γ' ⟨rfl, rfl⟩
    exact fin
theorem lockS {B : Bas} {Γ' : List Sl} {Hs' H' : Hp} {σ' : L2.St} {a : Addr} {vs : List V} {ds : List PyData} (T : Sx B Hs' σ' H' Γ') (f : B.fr a = none) (n : Hs' a = none) (al : Alone Γ' a) (ha : H' a = some (.lst vs)) (q : DvAll Hs' vs ds) :
    Same Hs' (upd Hs' a (.lst vs)) ∧ Sx B (upd Hs' a (.lst vs)) σ' H' Γ' ∧ Dv (upd Hs' a (.lst vs)) (.ref a) (.list ds) := by
  have g : Same Hs' (upd Hs' a (.lst vs)) := Same.new n
  refine ⟨g, ⟨T.fr, T.gr.trans ⟨g, fun b nb fb => ?_⟩, fun b u eb => ?_, T.len, fun j t ej => (T.sl j t ej).mono g fun b es z => ?_, T.ap, tabs_fz T.tb ha⟩, .lst (.inl upd_same) (q.mono g)⟩
  · exact (upd_ne fun z => fb (by rw [z]; exact f)).trans nb
  · by_cases z : b = a
    · subst z
      rw [upd_same] at eb
      rw [ha]
      exact eb
    · rw [upd_ne z] at eb
      exact T.sub b u eb
  · subst z
    obtain ⟨_, _, nb, _⟩ := T.lst ej
    exact ⟨(upd_ne (al j b es ej)).trans nb, rfl⟩
theorem set_ld {N : List Str} {E : DE} {x : Str} {py : Pos} {elt t iter : Expr} {ifs : List Expr} {scope : Scope} {lpos : Pos} {i : Nat} (c : Bod X k) (nd : N.Nodup) (eN : X.N = N) {own : List (Str × Nat)} (hi : idxS X.N x = some i) (hx : X.env.scope.names.lookup x = some .local) (eo : ownS N scope = own) (ok : blkC N X.env.scope scope own = true)
    (hsw : swapsWith (.ListComp elt [⟨t, iter, ifs, 0⟩] scope lpos) (some (.Name x py)) pos.line X.env = pure true) (hs : ∀ x, foldedSetIterable iter X.env x = pure x)
    (h : GI B X t iter Γ fun n f keep Γ1 => keep (clr Γ1 (own.map (·.2))) ∧ n ≤ sizeLine ∧ ∃ (p : Nat → Bool) (F : Nat → PyData),
      (∀ i, i < n → ∀ B', Blk X scope fun Y => GC B' Y (own.map (·.2)) t (f i) (clr Γ1 (own.map (·.2))) fun Γ2 => Blk X scope fun Y => GP B' Y ifs Γ2 fun b Γ3 => b = p i ∧ if b = true then Blk X scope fun Y => GE B' Y elt Γ3 fun d Γ4 => d = F i ∧ clr Γ4 (own.map (·.2)) = clr Γ1 (own.map (·.2)) else clr Γ3 (own.map (·.2)) = clr Γ1 (own.map (·.2))) ∧
      (Nat.ble (i + 1) (clr Γ1 (own.map (·.2))).length = true ∧ E.nx ((clr Γ1 (own.map (·.2))).set i (.d (.list (((List.range n).filter p).map F)))))) : G1 B X (.Assign [.Name x py] (.ListComp elt [⟨t, iter, ifs, 0⟩] scope lpos) pos) Γ E := fun D Hs σ H R S =>
  ps_of (ps_setLc (wi := tiW X t iter) (g := tgB X scope t) (tt := tpB X scope ifs) (te := teB X scope elt) c.calm (eN ▸ nd) (idxS_ok hi) hx hsw pi_W (blkOk_by (eN.symm ▸ ok)) (fun s0 H0 C cl fp => ⟨fun pins s _ _ _ u _ I r h => tgE (h s0 H0 C cl fp) pins s u I r⟩) (fun s0 H0 C cl fp => ⟨fun pins s _ _ _ I h => tpE (h s0 H0 C cl fp) pins s I⟩) (fun s0 H0 C cl fp => ⟨fun pins s _ _ _ I h => teE (h s0 H0 C cl fp) pins s I⟩) hs)
    (lk_t (φ := fun ds Γ1 => Nat.ble (i + 1) Γ1.length = true ∧ E.nx (Γ1.set i (.d (.list ds)))) h S fun ds Γ1 a vs Hs1 H1 ⟨l, p⟩ s S1 f n al ha q => by
      obtain ⟨g, S2, d⟩ := lockS S1 f n al ha q
      exact R.nx _ _ _ H1 p (s.trans g) (S2.putD (Nat.le_of_ble_eq_true l) d))
end
end Px
/-! Places of lists of one's own, by names. -/
namespace Px
open PySem PySem.Spec PyProof.Rows L2 Tc
variable [Px.Fld]
section
variable {B : Bas} {X : Cx} {Γ : List Sl} {E : DE} {pos : Pos} {k : Nat}
theorem ixo_n {i : Nat} {x : Str} {p0 : Pos} {b : Expr} {ad : Addr} {ds : List PyData} {φ : PyData → List Sl → Prop} (hN : idxS X.N x = some i) (hΓ : Γ[i]? = some (.own ad ds)) (hv : Sees X.env.scope x = true) (hs : PlainIx b) (h : GE B X b Γ fun d2 Γ2 => ∃ es, Γ2[i]? = some (.own ad es) ∧ IxD (.list es) d2 fun d => φ d Γ2)
    (hd : (x == ("__debug__" : Str)) = false) (hcd : (x == ("__classdict__" : Str)) = false) : GE B X (.Subscript (.Name x p0) b pos) Γ φ := ge_ixO i (idxS_ok hN) hΓ (sees_ok hv) hs h hd hcd
theorem put_n {i : Nat} {x : Str} {e j : Expr} {p0 ps : Pos} {ad : Addr} {ds0 : List PyData} (hN : idxS X.N x = some i) (hΓ : Γ[i]? = some (.own ad ds0)) (hv : Sees X.env.scope x = true)
    (h : GE B X e Γ fun d Γ1 => (∃ ds, Γ1[i]? = some (.own ad ds)) ∧ GE B X j Γ1 fun dj Γ2 => ∃ ds m, Γ2[i]? = some (.own ad ds) ∧ ∃ n, dj = .int n ∧ ixN ds.length n = some m ∧ E.nx (Γ2.set i (.own ad (ds.set m d))))
    (hd : (x == ("__debug__" : Str)) = false) (hcd : (x == ("__classdict__" : Str)) = false)
    (ha : ∀ v, assign (.Subscript (.Name x p0) j ps) X.env v = (do
      let ov ← holding [v] (eval (.Name x p0) X.env)
      let iv ← holding [v, ov] (eval j X.env)
      standAt ps
      holding [v, ov, iv] (setItem ov iv v)
      release [v, ov, iv] []))
    (hs : swapsWithSole [.Subscript (.Name x p0) j ps] e pos.line X.env = pure false) (hw : swappedStores [.Subscript (.Name x p0) j ps] e X.env = pure none)
    (h1 : (assignEach [.Subscript (.Name x p0) j ps] X.env).map (·.2) = [assign (.Subscript (.Name x p0) j ps) X.env]) : G1 B X (.Assign [.Subscript (.Name x p0) j ps] e pos) Γ E := g1_put i (idxS_ok hN) (sees_ok hv) h hd hcd ha hs hw h1
/-- a place of a list as a target -/
theorem gg_put {i : Nat} {x : Str} {j : Expr} {p0 : Pos} {ad : Addr} {ds0 : List PyData} {d : PyData} {φ : List Sl → Prop} (hN : idxS X.N x = some i) (hΓ : Γ[i]? = some (.own ad ds0)) (hv : Sees X.env.scope x = true)
    (h : GE B X j Γ fun dj Γ2 => ∃ ds m, Γ2[i]? = some (.own ad ds) ∧ ∃ n, dj = .int n ∧ ixN ds.length n = some m ∧ φ (Γ2.set i (.own ad (ds.set m d))))
    (hd : (x == ("__debug__" : Str)) = false) (hcd : (x == ("__classdict__" : Str)) = false)
    (ha : ∀ v, assign (.Subscript (.Name x p0) j pos) X.env v = (do
      let ov ← holding [v] (eval (.Name x p0) X.env)
      let iv ← holding [v, ov] (eval j X.env)
      standAt pos
      holding [v, ov, iv] (setItem ov iv v)
      release [v, ov, iv] [])) : GG B X (.Subscript (.Name x p0) j pos) d Γ φ := fun Hs σ H v Q S q g => by
  refine pg_of (pg_sub (pe_var (idxS_ok hN) (sees_ok hv) hd hcd) pe_W set_list ha) ?_
  obtain ⟨e1, _⟩ := S.lst hΓ
  refine ⟨_, e1, h Hs σ H _ S fun dj Γ2 vj Hs2 H2 ⟨ds, m, g2, n, ej, ix, nx⟩ s2 S2 qj => ?_⟩
  subst ej
  cases qj
  obtain ⟨_, _, _, vs, hv2, dv⟩ := S2.lst g2
  exact ⟨ad, vs, n, m, rfl, rfl, hv2, by rw [dv.len]; exact ix, g _ Hs2 σ _ nx s2 (S2.upd g2 (dvs_set m dv (q.mono s2)))⟩
theorem gg_n {N : List Str} (nd : N.Nodup) (eN : X.N = N) {i : Nat} {x : Str} {d : PyData} {φ : List Sl → Prop} (hi : idxS X.N x = some i) (hx : LocB X.env.scope x = true) (hf : X.fn x = true ∨ X.env.scope.names.lookup x = some .local)
    (h : Nat.ble (i + 1) Γ.length = true ∧ φ (Γ.set i (.d d))) : GG B X (.Name x pos) d Γ φ := gg_name (eN ▸ nd) i (idxS_ok hi) (locB_ok hx) ⟨Nat.le_of_ble_eq_true h.1, h.2⟩ hf
theorem gg_t (calm : X.calm = true) {ts : List Expr} {n1 : Nat} {ds : List PyData} {φ : List Sl → Prop} {n : Nat} (hn : (assignEach ts X.env).length = n) (hl : ds.length = n) (hst : (assignEach ts X.env).findIdx? (·.1) = none) (h : GGs B X ts ds Γ φ) : GG B X (.Tuple ts n1 pos) (.tuple ds) Γ φ := gg_tup calm h hn hl hst
theorem ggs_put {i : Nat} {x : Str} {j : Expr} {p0 ps : Pos} {ad : Addr} {ds0 : List PyData} {d : PyData} {ts : List Expr} {ds : List PyData} {φ : List Sl → Prop} {n : Int} {m : Nat} (hN : idxS X.N x = some i) (hΓ : Γ[i]? = some (.own ad ds0)) (hv : Sees X.env.scope x = true)
    (hj : ∀ ψ : PyData → List Sl → Prop, ψ (.int n) Γ → GE B X j Γ ψ) (hm : ixN ds0.length n = some m)
    (h : GGs B X ts ds (Γ.set i (.own ad (ds0.set m d))) φ)
    (hd : (x == ("__debug__" : Str)) = false) (hcd : (x == ("__classdict__" : Str)) = false)
    (ha : ∀ v, assign (.Subscript (.Name x p0) j ps) X.env v = (do
      let ov ← holding [v] (eval (.Name x p0) X.env)
      let iv ← holding [v, ov] (eval j X.env)
      standAt ps
      holding [v, ov, iv] (setItem ov iv v)
      release [v, ov, iv] []))
    (hs : (assignEach (.Subscript (.Name x p0) j ps :: ts) X.env).map (·.2) = assign (.Subscript (.Name x p0) j ps) X.env :: (assignEach ts X.env).map (·.2)) : GGs B X (.Subscript (.Name x p0) j ps :: ts) (d :: ds) Γ φ :=
  ggs_cons _ (gg_put hN hΓ hv (hj _ ⟨ds0, m, hΓ, n, rfl, hm, rfl⟩) hd hcd ha) h hs
theorem ggs_put0 {i : Nat} {x : Str} {p0 ps cp : Pos} {ad : Addr} {ds0 : List PyData} {d : PyData} {ts : List Expr} {ds : List PyData} {φ : List Sl → Prop} {n : Int} {m k0 : Nat} (hN : idxS X.N x = some i) (hΓ : Γ[i]? = some (.own ad ds0)) (hv : Sees X.env.scope x = true)
    (hm : ixN ds0.length n = some m)
    (h : GGs B X ts ds (Γ.set i (.own ad (ds0.set m d))) φ)
    (hd : (x == ("__debug__" : Str)) = false) (hcd : (x == ("__classdict__" : Str)) = false)
    (ha : ∀ v, assign (.Subscript (.Name x p0) (.Constant (.int n) k0 cp) ps) X.env v = (do
      let ov ← holding [v] (eval (.Name x p0) X.env)
      let iv ← holding [v, ov] (eval (.Constant (.int n) k0 cp) X.env)
      standAt ps
      holding [v, ov, iv] (setItem ov iv v)
      release [v, ov, iv] []))
    (hs : (assignEach (.Subscript (.Name x p0) (.Constant (.int n) k0 cp) ps :: ts) X.env).map (·.2) = assign (.Subscript (.Name x p0) (.Constant (.int n) k0 cp) ps) X.env :: (assignEach ts X.env).map (·.2)) : GGs B X (.Subscript (.Name x p0) (.Constant (.int n) k0 cp) ps :: ts) (d :: ds) Γ φ :=
  ggs_put hN hΓ hv (fun ψ h => ge_int h) hm h hd hcd ha hs
theorem ggs_n {N : List Str} (nd : N.Nodup) (eN : X.N = N) {i : Nat} {x : Str} {p : Pos} {d : PyData} {ts : List Expr} {ds : List PyData} {φ : List Sl → Prop} (hi : idxS X.N x = some i) (hx : LocB X.env.scope x = true) (hf : X.fn x = true ∨ X.env.scope.names.lookup x = some .local)
    (h : Nat.ble (i + 1) Γ.length = true ∧ GGs B X ts ds (Γ.set i (.d d)) φ) (hs : (assignEach (.Name x p :: ts) X.env).map (·.2) = assign (.Name x p) X.env :: (assignEach ts X.env).map (·.2)) : GGs B X (.Name x p :: ts) (d :: ds) Γ φ :=
  ggs_cons _ (gg_n nd eN hi hx hf ⟨h.1, rfl⟩) h.2 hs
theorem asg_t {ts : List Expr} {n1 : Nat} {tp : Pos} {e : Expr} (h : GE B X e Γ fun d Γ1 => GG B X (.Tuple ts n1 tp) d Γ1 E.nx) (hs : swapsWithSole [.Tuple ts n1 tp] e pos.line X.env = pure false) (hw : swappedStores [.Tuple ts n1 tp] e X.env = pure none)
    (h1 : (assignEach [.Tuple ts n1 tp] X.env).map (·.2) = [assign (.Tuple ts n1 tp) X.env]) : G1 B X (.Assign [.Tuple ts n1 tp] e pos) Γ E := g1_asg h hs hw h1
theorem mod_i {i j : Int} {k : PyData → Prop} (c : 0 < j) (h : k (.int (i % j))) : IntD (fun _ j => 0 < j) (fun i j => i % j) (.int i) (.int j) k := ⟨c, h⟩
theorem fdiv_i {i j : Int} {k : PyData → Prop} (c : 0 < j) (c2 : j.natAbs < 2 ^ 600) (h : k (.int (i / j))) : IntD CDivW (fun i j => i / j) (.int i) (.int j) k := ⟨wide_div c c2 (by decide) (by decide), h⟩
end
end Px
namespace Px
open PySem PySem.Spec PyProof.Rows L2 Tc
end Px
/-! Things that are not tracked, tracked while a def runs; and the other way round. -/
namespace Py
open PySem PySem.Spec PyProof.Rows L2 Tc Px
variable [Px.Fld]
abbrev Pins := List (Addr × Obj)
/-- this very object stands there -/
def ObO (a : Addr) (o : Obj) : HO := .ext fun h => h.get? a = some o
def plus (H : Hp) (L : Pins) : Hp := fun b => match L.lookup b with
  | some o => some (ObO b o)
  | none => H b
def less (H : Hp) (L : Pins) : Hp := fun b => match L.lookup b with
  | some _ => none
  | none => H b
def back (H2 H' : Hp) (L : Pins) : Hp := fun b => match L.lookup b with
  | some _ => H2 b
  | none => H' b
section
variable {H H' H2 : Hp} {L : Pins} {b : Addr} {o : Obj}
theorem plus_in (h : L.lookup b = some o) : plus H L b = some (ObO b o) := by unfold plus; rw [h]
theorem plus_out (h : L.lookup b = none) : plus H L b = H b := by unfold plus; rw [h]
theorem less_in (h : L.lookup b = some o) : less H L b = none := by unfold less; rw [h]
theorem less_out (h : L.lookup b = none) : less H L b = H b := by unfold less; rw [h]
theorem back_in (h : L.lookup b = some o) : back H2 H' L b = H2 b := by unfold back; rw [h]
theorem back_out (h : L.lookup b = none) : back H2 H' L b = H' b := by unfold back; rw [h]
theorem obO_ok {P : Program} {w : World} {h : Heap} (e : h.get? b = some o) : ObjOk P w H h b (ObO b o) := ⟨e, ⟨o, e⟩, fun _ _ q k => k o q⟩
/-- what is to be tracked for a while -/
structure Free (L : Pins) (H : Hp) (h : Heap) (fs : List Addr) : Prop where
  at_ : ∀ b o, L.lookup b = some o → h.get? b = some o
  no : ∀ b o, L.lookup b = some o → H b = none
  fr : ∀ b o, L.lookup b = some o → b ∉ fs
theorem Free.out {h : Heap} {fs : List Addr} (F : Free L H h fs) {u : HO} (e : H b = some u) : L.lookup b = none := by
  cases q : L.lookup b with
  | none => rfl
  | some o => rw [F.no b o q] at e; cases e
section
variable {P : Program} {w : World} {h h' B : Heap} {fs : List Addr}
theorem hok_plus (F : Free L H h fs) (k : HOk P w H h) : HOk P w (plus H L) h := fun b u e => by
  cases q : L.lookup b with
  | some o =>
    rw [plus_in q] at e
    cases e
    exact obO_ok (F.at_ b o q)
  | none =>
    rw [plus_out q] at e
    exact (k b u e).stay (fun _ _ _ z => z) (fun c z => by rw [plus_out (F.out z)]; exact z) fun c xs z => by rw [plus_out (F.out z)]; exact z
/-- all of them are there still -/
def Kept (L : Pins) (H' : Hp) : Prop := ∀ b o, L.lookup b = some o → H' b = some (ObO b o)
theorem Kept.at_ (K : Kept L H') (k : HOk P w H' h) {b : Addr} {o : Obj} (q : L.lookup b = some o) : h.get? b = some o := by
  obtain ⟨e, _⟩ : h.get? b = some o ∧ _ := k b _ (K b o q)
  exact e
theorem hok_less (K : Kept L H') (k : HOk P w H' h') : HOk P w (less H' L) h' := fun b u e => by
  cases q : L.lookup b with
  | some o => rw [less_in q] at e; cases e
  | none =>
    rw [less_out q] at e
    have out : ∀ c u, H' c = some u → (∀ o, u ≠ ObO c o) → L.lookup c = none := fun c u z n => by
      cases q : L.lookup c with
      | none => rfl
      | some o =>
        rw [K c o q] at z
        exact absurd (Option.some.inj z).symm (n o)
    exact (k b u e).stay (fun _ _ _ z => z) (fun c z => by rw [less_out (out c _ z fun o y => by unfold ObO at y; cases y)]; exact z) fun c xs z => by rw [less_out (out c _ z fun o y => by unfold ObO at y; cases y)]; exact z
theorem un_less (F : Free L H h fs) (K : Kept L H') (k : HOk P w H' h') (u : Un fs [] (plus H L) H' h h') : Un fs [] H (less H' L) h h' where
  keep := fun b o e n nf nx => by
    cases q : L.lookup b with
    | some o2 =>
      have z := F.at_ b o2 q
      rw [z] at e
      cases e
      exact K.at_ k q
    | none => exact u.keep b o e (by rw [plus_out q]; exact n) nf nx
  slot := fun b o e n nf nx => by
    cases q : L.lookup b with
    | some o2 => exact absurd nf (F.fr b o2 q)
    | none => exact u.slot b o e (by rw [plus_out q]; exact n) nf nx
  free := fun b o e n nx => by
    cases q : L.lookup b with
    | some o2 => exact less_in q
    | none => rw [less_out q]; exact u.free b o e (by rw [plus_out q]; exact n) nx
  there := u.there
  tups := fun b xs e => by
    have q := F.out e
    rw [less_out q]
    exact u.tups b xs (by rw [plus_out q]; exact e)
  frzs := fun b ob xs e => by
    have q := F.out e
    rw [less_out q]
    exact u.frzs b ob xs (by rw [plus_out q]; exact e)
  tbls := fun b ps e => by
    have q := F.out e
    rw [less_out q]
    exact u.tbls b ps (by rw [plus_out q]; exact e)
theorem ub_less (F : Free L H h fs) (K : Kept L H') (k : HOk P w H' B) (u : UB fs (plus H L) H' h B h') : UB fs H (less H' L) h B h' where
  keep := fun b o e n nf => by
    cases q : L.lookup b with
    | some o2 =>
      have z := F.at_ b o2 q
      rw [z] at e
      cases e
      exact K.at_ k q
    | none => exact u.keep b o e (by rw [plus_out q]; exact n) nf
  slot := u.slot
  free := fun b o e n => by
    cases q : L.lookup b with
    | some o2 => exact less_in q
    | none => rw [less_out q]; exact u.free b o e (by rw [plus_out q]; exact n)
  there := u.there
  tups := fun b xs e => by
    have q := F.out e
    rw [less_out q]
    exact u.tups b xs (by rw [plus_out q]; exact e)
  frzs := fun b ob xs e => by
    have q := F.out e
    rw [less_out q]
    exact u.frzs b ob xs (by rw [plus_out q]; exact e)
  tbls := fun b ps e => by
    have q := F.out e
    rw [less_out q]
    exact u.tbls b ps (by rw [plus_out q]; exact e)
/-! the other way -/
theorem un_back (K : Kept L H2) (k : HOk P w H2 h) (nf : ∀ b o, L.lookup b = some o → b ∉ fs) (u : Un fs [] (less H2 L) H' h h') : Un fs [] H2 (back H2 H' L) h h' := by
  have out : ∀ c u, H2 c = some u → (∀ o, u ≠ ObO c o) → L.lookup c = none := fun c u z n => by
    cases q : L.lookup c with
    | none => rfl
    | some o =>
      rw [K c o q] at z
      exact absurd (Option.some.inj z).symm (n o)
  have o0 : ∀ c, H2 c = none → L.lookup c = none := fun c z => by
    cases q : L.lookup c with
    | none => rfl
    | some o => rw [K c o q] at z; cases z
  refine ⟨fun b o e n f x => u.keep b o e (by rw [less_out (o0 b n)]; exact n) f x, fun b o e n f x => u.slot b o e (by rw [less_out (o0 b n)]; exact n) f x, fun b o e n x => by rw [back_out (o0 b n)]; exact u.free b o e (by rw [less_out (o0 b n)]; exact n) x, u.there, fun b xs e => ?_, fun b ob xs e => ?_, fun b ps e => ?_⟩
  · have q := out b _ e fun o y => by unfold ObO at y; cases y
    rw [back_out q]
    exact u.tups b xs (by rw [less_out q]; exact e)
  · have q := out b _ e fun o y => by unfold ObO at y; cases y
    rw [back_out q]
    exact u.frzs b ob xs (by rw [less_out q]; exact e)
  · have q := out b _ e fun o y => by unfold ObO at y; cases y
    rw [back_out q]
    exact u.tbls b ps (by rw [less_out q]; exact e)
theorem hok_back {h1 : Heap} (K : Kept L H2) (k : HOk P w H2 h) (no : ∀ b o, L.lookup b = some o → H' b = none) (at_ : ∀ b o, L.lookup b = some o → h1.get? b = some o) (k' : HOk P w H' h1) : HOk P w (back H2 H' L) h1 := fun b u e => by
  cases q : L.lookup b with
  | some o =>
    rw [back_in q, K b o q] at e
    cases e
    exact obO_ok (at_ b o q)
  | none =>
    rw [back_out q] at e
    have out : ∀ c u, H' c = some u → L.lookup c = none := fun c u z => by
      cases q : L.lookup c with
      | none => rfl
      | some o => rw [no c o q] at z; cases z
    exact (k' b u e).stay (fun _ _ _ z => z) (fun c z => by rw [back_out (out c _ z)]; exact z) fun c xs z => by rw [back_out (out c _ z)]; exact z
theorem ub_back (K : Kept L H2) (k : HOk P w H2 h) (u : UB fs (less H2 L) H' h B h') : UB fs H2 (back H2 H' L) h B h' := by
  have out : ∀ c u, H2 c = some u → (∀ o, u ≠ ObO c o) → L.lookup c = none := fun c u z n => by
    cases q : L.lookup c with
    | none => rfl
    | some o =>
      rw [K c o q] at z
      exact absurd (Option.some.inj z).symm (n o)
  have o0 : ∀ c, H2 c = none → L.lookup c = none := fun c z => by
    cases q : L.lookup c with
    | none => rfl
    | some o => rw [K c o q] at z; cases z
  refine ⟨fun b o e n f => u.keep b o e (by rw [less_out (o0 b n)]; exact n) f, u.slot, fun b o e n => by rw [back_out (o0 b n)]; exact u.free b o e (by rw [less_out (o0 b n)]; exact n), u.there, fun b xs e => ?_, fun b ob xs e => ?_, fun b ps e => ?_⟩
  · have q := out b _ e fun o y => by unfold ObO at y; cases y
    rw [back_out q]
    exact u.tups b xs (by rw [less_out q]; exact e)
  · have q := out b _ e fun o y => by unfold ObO at y; cases y
    rw [back_out q]
    exact u.frzs b ob xs (by rw [less_out q]; exact e)
  · have q := out b _ e fun o y => by unfold ObO at y; cases y
    rw [back_out q]
    exact u.tbls b ps (by rw [less_out q]; exact e)
end
end
section
variable {P : Program} {w : World} {K : PySem.W.Frag} {mg : Str → Option Value} {base : Heap} {A : Around} {outer : List Env} {s s' : Shared} {H H2 : Hp} {L : Pins} {Q : VK} {E : XK}
theorem env0_plus (F : Free L H s.heap (frs outer)) (nb : ∀ b o, L.lookup b = some o → base.get? b = none) (e : Env0 P w K mg base A outer s H) : Env0 P w K mg base A outer s (plus H L) := by
  refine ⟨e.frames, e.mod, fun b o z => ⟨(e.bs b o z).1, ?_⟩, e.bsz, e.funs, fun b hb => ?_, hok_plus F e.hok, e.bare⟩
  · cases q : L.lookup b with
    | some o2 => rw [nb b o2 q] at z; cases z
    | none => rw [plus_out q]; exact (e.bs b o z).2
  · cases q : L.lookup b with
    | some o2 => exact absurd hb (F.fr b o2 q)
    | none => rw [plus_out q]; exact e.frf b hb
theorem env0_less (Kp : Kept L H2) (e : Env0 P w K mg base A outer s H2) : Env0 P w K mg base A outer s (less H2 L) := by
  refine ⟨e.frames, e.mod, fun b o z => ⟨(e.bs b o z).1, ?_⟩, e.bsz, e.funs, fun b hb => ?_, hok_less Kp e.hok, e.bare⟩
  · cases q : L.lookup b with
    | some o2 => exact less_in q
    | none => rw [less_out q]; exact (e.bs b o z).2
  · cases q : L.lookup b with
    | some o2 => exact less_in q
    | none => rw [less_out q]; exact e.frf b hb
/-- a call's end, told of the things that stood there before alone -/
theorem cr_less (F : Free L H s.heap (frs outer)) {r : Result} (h : CR (L2.CX P w) outer P w (plus H L) s (fun v H' => Kept L H' ∧ Q v (less H' L)) (fun c d H' => Kept L H' ∧ E c d (less H' L)) r s') : CR (L2.CX P w) outer P w H s Q E r s' := by
  cases r with
  | ok fl =>
    cases fl with
    | ret u =>
      obtain ⟨v, H', os, bare, un, hok, rv, kp, q⟩ := h
      exact ⟨v, less H' L, os, bare, un_less F kp hok un, hok_less kp hok, rv, q⟩
    | next | brk | cont => exact h
  | error e =>
    obtain ⟨a, B, H', cls, d, ea, fl, hok, ub, na, os, ag, kp, q⟩ := h
    refine ⟨a, B, less H' L, cls, d, ea, fl, hok_less kp hok, ub_less F kp hok ub, ?_, os, ag, q⟩
    cases z : L.lookup a with
    | some o => exact less_in z
    | none => rw [less_out z]; exact na
theorem cr_back (Kp : Kept L H2) (k : HOk P w H2 s.heap) (nf : ∀ b o, L.lookup b = some o → b ∉ frs outer) {r : Result} (h : CR (L2.CX P w) outer P w (less H2 L) s (fun v H' => Q v (back H2 H' L)) (fun c d H' => E c d (back H2 H' L)) r s') : CR (L2.CX P w) outer P w H2 s Q E r s' := by
  have at0 : ∀ b o, L.lookup b = some o → s.heap.get? b = some o := fun b o q => Kp.at_ k q
  cases r with
  | ok fl =>
    cases fl with
    | ret u =>
      obtain ⟨v, H', os, bare, un, hok, rv, q⟩ := h
      exact ⟨v, back H2 H' L, os, bare, un_back Kp k nf un, hok_back Kp k (fun b o z => un.free b o (at0 b o z) (less_in z) (by simp)) (fun b o z => un.keep b o (at0 b o z) (less_in z) (nf b o z) (by simp)) hok, rv, q⟩
    | next | brk | cont => exact h
  | error e =>
    obtain ⟨a, B, H', cls, d, ea, fl, hok, ub, na, os, ag, q⟩ := h
    have inB : ∀ b o, L.lookup b = some o → B.get? b = some o := fun b o z => ub.keep b o (at0 b o z) (less_in z) (nf b o z)
    refine ⟨a, B, back H2 H' L, cls, d, ea, fl, hok_back Kp k (fun b o z => ub.free b o (at0 b o z) (less_in z)) inB hok, ub_back Kp k ub, ?_, os, ag, q⟩
    cases z : L.lookup a with
    | some o =>
      have := inB a o z
      rw [fl.2.1] at this
      cases this
    | none => rw [back_out z]; exact na
end
/-- the callee runs, with some things tracked for it -/
theorem run_plus {X : Cx} {k : Nat} {f : Addr} {fd : FuncData} {ps : List Str} {sp : Sp} {pins : Pins} {σ : L2.St} {H : Hp} {s : Shared} {Q : VK} {E : XK} {us : List Value} {vs : List V} {L : Pins}
    (F : FnG X.prog X.w X.K X.mg X.base (L2.CX X.prog X.w) k f fd ps sp) (hr : Room k X.A) (hgd : X.A.guards = some []) (hb : Binds X.K fd ps [])
    (hx : PassesAt (L2.CX X.prog X.w) X σ E) (I : Inv X pins σ H s) (r : Vals vs us) (Fr : Free L H s.heap (frs X.stack)) (nb : ∀ b o, L.lookup b = some o → X.base.get? b = none)
    (h : sp vs (plus H L) (fun v H' => Kept L H' ∧ Q v (less H' L)) (fun c d H' => Kept L H' ∧ E c d (less H' L))) :
    wpAny (model X.prog X.w) X.A (call (.ref f) us) (EP X pins σ Q) X.xe s := by
  have hl : us.length = ps.length := r.length ▸ F.len _ _ _ _ h
  have b := hb s us I.kIn (by rw [List.append_nil]; exact hl)
  rw [List.append_nil] at b
  have main := F.run X.A X.stack s (plus H L) ⟨us, []⟩ us vs _ _ hr hgd (env0_plus Fr nb I.env0) b r h
  refine wpAny_call (codeAny_mono main ?_)
  intro res s' hq
  have hq := cr_less (Q := Q) (E := E) Fr hq
  cases res with
  | error er => exact hx pins H s er s' I hq
  | ok fl =>
    cases fl with
    | ret u => exact I.after hq
    | next | brk | cont => exact False.elim hq
end Py
/-! A lambda without parameters as a value: what a call of it gives. -/
namespace Py
open PySem PySem.Spec PyProof.Rows L2 Tc Px
variable [Px.Fld]
open LamX (LamS lamCx lamEnv Tabs TabB ExtN CodeO TabS)
/-- what calling the function at a gives -/
structure ActS (P : Program) (w : World) (K : PySem.W.Frag) (mg : Str → Option Value) (base : Heap) (k : Nat) (H Hs : Hp) (a : Addr) (out : Out) : Prop where
  obj : ∃ oc od fd osl, H a = some (ObO a ⟨oc, od, .func fd, osl⟩)
  run : ∀ (A : Around) (outer : List Env) (s : Shared) (H2 Hs2 : Hp) (Q : VK) (E : XK), Room k A → A.guards = some [] → Env0 P w K mg base A outer s H2 → Same H H2 → Grow H Hs Hs2 → Same Hs2 H2 →
    (∀ v Hs' H', Same H2 H' → Same Hs' H' → Grow H2 Hs2 Hs' → out.to (fun d => Dv Hs' v d → Q v H') (fun C d => Dv Hs' v d → upE C v H' E)) →
    codeAny (model P w) A (.call (.ref a) ⟨[], []⟩) (CR (L2.CX P w) outer P w H2 s Q E) s
theorem takes_no {X : Cx} {W : WX} {L : Pins} (F : ∀ pins σ H s, Inv X pins σ H s → ∀ b o, L.lookup b = some o → H b = none) (tk : Takes X W) : Takes X (fun cls d σ H => (∀ b o, L.lookup b = some o → H b = none) → W cls d σ H) := fun u s' x => by
  obtain ⟨a, B, sI, pins, σ, H, cls, d, e, I, r1, r2, r3, r4, r5, r6, w⟩ := x
  exact tk u s' ⟨a, B, sI, pins, σ, H, cls, d, e, I, r1, r2, r3, r4, r5, r6, w (F _ _ _ _ I)⟩
theorem upd_back {H2 H' : Hp} {L : Pins} {dd : Addr} {u : HO} (h : L.lookup dd = none) : back H2 (upd H' dd u) L = upd (back H2 H' L) dd u := by
  funext b
  by_cases e : b = dd
  · subst e
    rw [back_out h, upd_same, upd_same]
  · rw [upd_ne e]
    cases q : L.lookup b with
    | some o => rw [back_in q, back_in q]
    | none => rw [back_out q, back_out q, upd_ne e]
/-- slots that hold data alone -/
def Flat (Γ : List Sl) : Prop := ∀ (i : Nat) (s : Sl), Γ[i]? = some s → s = .no ∨ ∃ x, s = .d x
end Py
/-! A lambda is made: its object is tracked from then on. -/
namespace Py
open PySem PySem.Spec PyProof.Rows L2 Tc Px
variable [Px.Fld]
open LamX (LamS lamCx lamEnv Tabs TabB ExtN CodeO TabS)
abbrev lamQ (X : Cx) : Str := X.env.qual ++ "<lambda>"
abbrev lamO (X : Cx) (params : Arguments) (body : Expr) (scope : Scope) (pm : Value) (c' : Addr) (ctv : Value) : Obj := PySem.W.kla_obj "<lambda>" (lamQ X) params body scope (cloFrom X.env.cells scope.names []) pm c' ctv
def tLamF (X : Cx) (T : List (Addr × Str)) (P : Addr) (params : Arguments) (body : Expr) (scope : Scope) : TE := fun _ H Q => Tabs T H ∧ ∀ (f c' : Addr) (pm ctv : Value) (H1 : Hp), (∀ b o, H b = some o → b ≠ P → H1 b = some o) → Tabs T H1 → H1 f = none → H1 c' = some (CodeO c' (lamQ X)) →
  Q (.ref f) (upd H1 f (ObO f (lamO X params body scope pm c' ctv)))
theorem tab_more {T : List (Addr × Str)} {H : Hp} {P c' : Addr} {q : Str} {ps : Array Value} {pos : Pos} (hT : Tabs T H) (hP : H P = some (.tbl ps)) (ht : TriplesOk ps.toList) (hu : ∀ p ∈ T, p.1 = P → p.2 = q)
    (ha : ∀ (pos : Pos) (cv : Value), codeAmong pos ps.toList = some cv → ∃ c, cv = .ref c ∧ H c = some (CodeO c q)) (nC : H c' = none) :
    (∀ b o, H b = some o → b ≠ P → upd (upd H P (.tbl (ps ++ #[rawInt pos.line, rawInt pos.col, .ref c']))) c' (CodeO c' q) b = some o) ∧ Tabs T (upd (upd H P (.tbl (ps ++ #[rawInt pos.line, rawInt pos.col, .ref c']))) c' (CodeO c' q)) := by
  have ext : ∀ b o, H b = some o → b ≠ P → upd (upd H P (.tbl (ps ++ #[rawInt pos.line, rawInt pos.col, .ref c']))) c' (CodeO c' q) b = some o := fun b o e b2 => by
    have b1 : b ≠ c' := fun z => by rw [z, nC] at e; cases e
    rw [upd_ne b1, upd_ne b2]
    exact e
  have cP : ∀ d, H d = some (CodeO d q) → d ≠ P := fun d e z => by
    rw [z, hP] at e
    unfold LamX.CodeO at e
    cases e
  have cP2 : ∀ d q2, H d = some (CodeO d q2) → d ≠ P := fun d q2 e z => by
    rw [z, hP] at e
    unfold LamX.CodeO at e
    cases e
  refine ⟨ext, fun p hp => ?_⟩
  by_cases z : p.1 = P
  · have e2 := hu p hp z
    rw [z, e2]
    have nPc : P ≠ c' := fun y => by rw [y, nC] at hP; cases hP
    have eL : (ps ++ #[rawInt pos.line, rawInt pos.col, .ref c']).toList = ps.toList ++ [rawInt pos.line, rawInt pos.col, .ref c'] := by simp
    refine ⟨_, by rw [upd_ne nPc, upd_same], by rw [eL]; exact PySem.TriplesOk_snoc _ _ _ _ ht, fun p2 cv y => ?_⟩
    rw [eL] at y
    rcases LamX.among_app _ ht y with k | k
    · obtain ⟨d, e3, e4⟩ := ha p2 cv k
      exact ⟨d, e3, ext _ _ e4 (cP d e4)⟩
    · exact ⟨c', k, upd_same⟩
  · obtain ⟨qs, y1, y2, y3⟩ := hT p hp
    have b1 : p.1 ≠ c' := fun z => by rw [z, nC] at y1; cases y1
    refine ⟨qs, by rw [upd_ne b1, upd_ne z]; exact y1, y2, fun p2 cv y => ?_⟩
    obtain ⟨d, e3, e4⟩ := y3 p2 cv y
    exact ⟨d, e3, ext _ _ e4 (cP2 d _ e4)⟩
end Py
/-! Values that are no data: a def gets them, calls them, walks a list of them; a caught exception as an argument. -/
namespace Py
open PySem PySem.Spec PyProof.Rows L2 Tc Px
variable [Px.Fld]
theorem ActS.mono {P : Program} {w : World} {K : PySem.W.Frag} {mg : Str → Option Value} {base : Heap} {k : Nat} {H Hs H' Hs' : Hp} {a : Addr} {out : Out} (A : ActS P w K mg base k H Hs a out) (s : Same H H') (g : Grow H Hs Hs') : ActS P w K mg base k H' Hs' a out := by
  refine ⟨?_, fun A' outer st H2 Hs2 Q E hr hg e0 s2 g2 u2 q => A.run A' outer st H2 Hs2 Q E hr hg e0 (s.trans s2) (g.trans (g2.mono fun b nb => ?_)) u2 q⟩
  · obtain ⟨oc, od, fd, osl, h⟩ := A.obj
    exact ⟨oc, od, fd, osl, s _ _ h⟩
  · cases q : H b with
    | none => exact absurd q nb
    | some u =>
      rw [s b u q]
      exact fun z => nomatch z
/-- what a def gives of values -/
def spS (n : Nat) (pre : Hp → Hp → List V → Out → Prop) : Sp := fun vs H Q E => ∃ Hs out, Same Hs H ∧ vs.length = n ∧ pre H Hs vs out ∧
  ∀ v Hs' H', Same H H' → Same Hs' H' → Grow H Hs Hs' → out.to (fun d => Dv Hs' v d → Q v H') (fun C d => Dv Hs' v d → upE C v H' E)
theorem mapv_get {vs : List V} {i : Nat} {s : Sl} (h : (vs.map Sl.v)[i]? = some s) : ∃ v, vs[i]? = some v ∧ s = .v v := by
  rw [List.getElem?_map] at h
  cases q : vs[i]? with
  | none => rw [q] at h; cases h
  | some v => rw [q] at h; exact ⟨v, rfl, (Option.some.inj h).symm⟩
section
variable {P : Program} {w : World} {K : PySem.W.Frag} {mg : Str → Option Value} {base : Heap}
theorem fn_vals {x qual : Str} {st : Stmt} {f : Addr} {fd : FuncData} {N ps : List Str} {k : Nat} (F : Fun K x qual st f fd) (S : FnScope N ps (defScope st)) (sm : ∃ o, K.lookup sysModules = some o) (hl : ps.length ≤ N.length) (pre : Hp → Hp → List V → Out → Prop)
    (body : ∀ (cdv : Value) (A : Around) (outer : List Env) (s : Shared) (H : Hp) (E : XK) (B : Bas) (vs : List V) (out : Out), vs.length = ps.length → pre B.fr B.hs vs out →
      Bod (cxOf (L2.CX P w) P w K mg base N qual (defScope st) f cdv A outer s H E) k → Exc B (cxOf (L2.CX P w) P w K mg base N qual (defScope st) f cdv A outer s H E) (fun C d _ => out = .up C d) →
      Gs B (cxOf (L2.CX P w) P w K mg base N qual (defScope st) f cdv A outer s H E) (defBody st) (slots0 N (vs.map .v)) { nx := fun _ => out = .ok .none, rt := fun d _ => out = .ok d }) :
    FnG P w K mg base (L2.CX P w) (k + 1) f fd ps (spS ps.length pre) := by
  refine Fun.okG F S (fun vs H Q E h => ?_) (fun cdv A outer s H vs Q E hr hgd h => ?_)
  · obtain ⟨Hs, out, _, l, _⟩ := h
    exact l
  · obtain ⟨Hs, out, sub, l, hp, q⟩ := h
    have tk := takes_of (X := cxOf (L2.CX P w) P w K mg base N qual (defScope st) f cdv A outer s H E) (E := E) rfl rfl rfl rfl
    have S0 : Sx ⟨H, Hs, []⟩ Hs (L2.start N vs) H (slots0 N (vs.map .v)) := by
      refine ⟨Same.refl _, Grow.refl _ _, sub, ?_, fun i t h => ?_, fun i j a es b fs h1 h2 n => ?_, tabs_nil⟩
      · show (vs.map some ++ List.replicate _ none).length = (vs.map Sl.v ++ _).length
        simp only [List.length_append, List.length_map, List.length_replicate]
      · rcases slots_get h with rfl | h
        · exact trivial
        · obtain ⟨v, e, rfl⟩ := mapv_get h
          exact start_get e
      · rcases slots_get h1 with z | z
        · cases z
        · obtain ⟨d, _, z⟩ := mapv_get z
          cases z
    refine ⟨_, pss_W, body cdv A outer s H E ⟨H, Hs, []⟩ vs out l hp ⟨⟨hr, hgd, sm⟩, S.nd, rfl, PassesOwn.leaving⟩ ⟨_, tk, fun C d Γ v Hs' σ' H' e T dvv dd hdd => ?_⟩ _ Hs _ H ⟨fun Γ Hs' σ' H' e _ T => ?_, fun d Γ v Hs' σ' H' e _ T dvv => ?_, fun _ _ _ _ z => z.elim, fun _ _ _ _ z => z.elim⟩ S0⟩
    · have z := q v Hs' H' T.fr T.sub T.gr
      rw [e] at z
      exact z dvv dd hdd
    · have z := q .non Hs' H' T.fr T.sub T.gr
      have e : out = .ok .none := e
      rw [e] at z
      exact z .non
    · have z := q v Hs' H' T.fr T.sub T.gr
      have e : out = .ok d := e
      rw [e] at z
      exact z dvv
end
end Py
namespace Py
open PySem PySem.Spec PyProof.Rows L2 Tc Px
end Py
/-! Further built-ins on data. -/
namespace Py
open PySem PySem.Spec PyProof.Rows L2 Tc Px
variable [Px.Fld]
section
variable {B : Bas} {X : Cx} {Γ : List Sl} {pos ap : Pos} {k : Nat} {E : DE} {φ : PyData → List Sl → Prop} {a b : Expr}
abbrev Few (X : Cx) (cpos : Pos) (e : Expr) (es : List Expr) : Prop := ((backTo cpos (starEach (e :: es) X.env)).all (fun x => !x.1) && (backToKw cpos (keywordEach [] X.env)).all (fun x => x.1.isSome)
      && decide ((e :: es).length + ([] : List Keyword).length + (if ([] : List Keyword).isEmpty then 0 else 1) < 30)) = true
/-- x.append(e), x a list of one's own -/
theorem g1_append {i : Nat} {x : Str} {xp : Pos} {e : Expr} {spos : Pos} {ad : Addr} {ds0 : List PyData} (hN : idxS X.N x = some i) (hΓ : Γ[i]? = some (.own ad ds0)) (hv : Sees X.env.scope x = true)
    (h : GE B X e Γ fun d Γ1 => ∃ ds, Γ1[i]? = some (.own ad ds) ∧ ds.length < sizeLine ∧ E.nx (Γ1.set i (.own ad (ds ++ [d]))))
    (hd : (x == ("__debug__" : Str)) = false) (hcd : (x == ("__classdict__" : Str)) = false)
    (hb : attributeBase (.Name x xp) "append" X.env (eval (.Name x xp) X.env) = eval (.Name x xp) X.env) (hf : Few X pos e []) (hl : (ap.endLine == pos.line) = true) (hs : starEach [e] X.env = (false, eval e X.env) :: starEach [] X.env)
    (hw : swapsWith (.Call (.Attribute (.Name x xp) "append" ap) [e] [] pos) none spos.line X.env = pure false) : G1 B X (.Expr (.Call (.Attribute (.Name x xp) "append" ap) [e] [] pos) spos) Γ E := fun D Hs σ H R S =>
  ps_of (ps_expr (pe_bm PySem.F.plainAttrs_list PySem.F.slot_list_append PySem.F.type_list_append mt_append (pe_var (idxS_ok hN) (sees_ok hv) hd hcd) (pa_cons pe_W pa_nil hs) hb hf hl hs rfl) hw) (by
    obtain ⟨e1, _, _, vs, hv1, _⟩ := S.lst hΓ
    refine ⟨_, e1, .inl ⟨rfl, _, .inl (.inl hv1)⟩, show teW X e σ H _ from h Hs σ H _ S fun d Γ1 v Hs1 H1 ⟨ds, g1, hz, p⟩ s S1 q => ?_⟩
    obtain ⟨_, _, _, ws, hw1, dv⟩ := S1.lst g1
    exact ⟨ad, ws, v, rfl, rfl, hw1, by rw [dv.len]; exact hz, R.nx _ Hs1 σ _ p s (S1.upd g1 (dvs_snoc dv q))⟩)
/-- sorted of a few texts -/
theorem gf_sortS {x : Str} {p : Pos} {χ : List PyData → List Sl → Prop} (hx : x = "sorted") (hg : Gl X x) (hm : X.mg x = none) (h : GE B X a Γ fun d Γ1 => ∃ l : List Str, d = .list (l.map .str) ∧ l.length < 64 ∧ ∀ ys : List Str, ys.Perm l → sortedS ys = true → χ (ys.map .str) Γ1) (he : starEach [a] X.env = (false, eval a X.env) :: starEach [] X.env) : GF B X (.Call (.Name x p) [a] [] pos) Γ χ := fun Hs σ H Q S g => by
  subst hx
  exact pe_of (pe_callB cr_sortedS hg hm (by decide +kernel) (pa_cons pe_W pa_nil he) (he := he)) (show teW X a σ H _ from h Hs σ H _ S fun d Γ1 v Hs1 H1 ⟨l, e, hl, p⟩ s S1 q => by
    subst e
    cases q with
    | @lst p0 vs _ r dv =>
      have ev := dvs_strs dv
      subst ev
      refine ⟨p0, l, rfl, rdL (K := X.K) (rd_up S1.sub r), hl, fun ys q pm so hq => ?_⟩
      obtain ⟨f, n, al⟩ := alone_new S1 hq
      exact g _ Γ1 q _ Hs1 _ (p ys pm so) s (S1.aside hq) f n al upd_same (dvs_of_strs _))
end
end Py
namespace Py
open PySem PySem.Spec PyProof.Rows L2 Tc Px
end Py
/-! A call with some things tracked for it; try: .. except (A, B, C) as e: return word(e). -/
namespace Py
open PySem PySem.Spec PyProof.Rows L2 Tc Px
variable [Px.Fld]
open L2H (RoomH PinOk cxH inv_startH)
section
variable {B : Bas} {Hs : Hp} {σ : L2.St} {H : Hp} {Γ : List Sl} {L : Pins}
theorem Same.plus (no : ∀ b o, L.lookup b = some o → H b = none) {G : Hp} (s : Same G H) : Same G (plus H L) := fun b u e => by
  have z := s b u e
  cases q : L.lookup b with
  | some o => rw [no b o q] at z; cases z
  | none => rw [plus_out q]; exact z
theorem sx_less (T : Sx B Hs σ H Γ) (no : ∀ b o, L.lookup b = some o → H b = none) {Hs2 H2 : Hp} (k1 : Same (plus H L) H2) (k2 : Same Hs2 H2) (k3 : Grow (plus H L) Hs Hs2) : Same Hs Hs2 ∧ Sx B Hs2 σ (less H2 L) Γ ∧ Kept L H2 := by
  have at_ : ∀ b u, H b = some u → L.lookup b = none := fun b u e => by
    cases q : L.lookup b with
    | some o => rw [no b o q] at e; cases e
    | none => rfl
  have g : Grow H Hs Hs2 := k3.mono fun b n => by
    cases e : H b with
    | none => exact absurd e n
    | some u =>
      rw [plus_out (at_ b u e), e]
      exact fun z => nomatch z
  have s1 : Same H (less H2 L) := fun b u e => by
    rw [less_out (at_ b u e)]
    exact k1 b u (by rw [plus_out (at_ b u e)]; exact e)
  have s2 : Same Hs2 (less H2 L) := fun b u e => by
    cases q : L.lookup b with
    | none => rw [less_out q]; exact k2 b u e
    | some o =>
      have z := k3.off b (T.sub.free (no b o q)) (by rw [plus_in q]; exact fun z => nomatch z)
      rw [z] at e
      cases e
  obtain ⟨k, S⟩ := T.step g s1 s2
  exact ⟨k, S, fun b o q => k1 b _ (plus_in q)⟩
end
theorem Sx.re {B : Bas} {Hs : Hp} {σ : L2.St} {H : Hp} {Γ : List Sl} (S : Sx B Hs σ H Γ) : Sx ⟨B.fr, Hs, B.T⟩ Hs σ H Γ := ⟨S.fr, Grow.refl _ _, S.sub, S.len, S.sl, S.ap, S.tb⟩
theorem Sx.un {B : Bas} {Hs Hs' : Hp} {σ : L2.St} {H : Hp} {Γ : List Sl} (g : Grow B.fr B.hs Hs) (S : Sx ⟨B.fr, Hs, B.T⟩ Hs' σ H Γ) : Sx B Hs' σ H Γ := ⟨S.fr, g.trans S.gr, S.sub, S.len, S.sl, S.ap, S.tb⟩
theorem call_plus {X : Cx} {j k : Nat} {x : Str} {p pos : Pos} {e : Expr} {es : List Expr} {ps : List Str} {sp : Sp} {E : XK} (F : Call X.prog X.w X.K X.mg X.base (L2.CX X.prog X.w) j x ps sp) (hr : Room k X.A) (hgd : X.A.guards = some []) (hj : j ≤ k) (hg : Gl X x)
    (hdb : (x == ("__debug__" : Str)) = false) (he : starEach (e :: es) X.env = (false, eval e X.env) :: starEach es X.env) (hpl : (backTo pos (starEach es X.env)).any (·.1) = false)
    {σ : L2.St} {H : Hp} {Q : VK} (hx : PassesAt (L2.CX X.prog X.w) X σ E)
    (h : taW X (e :: es) σ H fun vs H1 => ∀ (pins : Pins) (s : Shared), Inv X pins σ H1 s → ∃ L : Pins, Free L H1 s.heap (frs X.stack) ∧ (∀ b o, L.lookup b = some o → X.base.get? b = none) ∧ sp vs (plus H1 L) (fun v H' => Kept L H' ∧ Q v (less H' L)) (fun c d H' => Kept L H' ∧ E c d (less H' L))) : teW X (.Call (.Name x p) (e :: es) [] pos) σ H Q := teI fun pins s I => by
  obtain ⟨f, fd, G, hm, hk, hb⟩ := F.ex
  refine wpAny_Call_Name_kw (ld_glob I hg hm ?_ hdb)
  refine PySem.W.callWith_K (h₀ := X.base) I.ok.mod.kin hk (thn (taE h pos pins s I) ?_) he hpl
  rintro us s1 ⟨vs, H1, I1, r, q⟩
  obtain ⟨L, fr, nb, z⟩ := q pins s1 I1
  exact ⟨I1.kIn, run_plus G (hr.mono hj) hgd hb hx I1 r fr nb z⟩
theorem pass_never {X : Cx} {σ : L2.St} : PassesAt (L2.CX X.prog X.w) X σ (fun _ _ _ => False) := fun pins H s e s' I c => by
  obtain ⟨_, _, _, _, _, _, _, _, _, _, _, _, h⟩ := c
  exact h.elim
/-! ### a def that an except suite calls with its exception -/
end Py
/-! list * int; how long what repr shows is. -/
namespace Py
open PySem PySem.Spec PyProof.Rows L2 Tc Px
variable [Px.Fld]
section
variable {B : Bas} {X : Cx} {Γ : List Sl} {pos : Pos} {φ : List PyData → List Sl → Prop} {a b : Expr}
theorem gf_rep (h : GF B X a Γ fun ds Γ1 => ∀ B' : Bas, Same B.fr B'.fr → Grow B.fr B.hs B'.hs → GE B' X b Γ1 fun d Γ2 => ∃ k : Int, d = .int k ∧ (0 ≤ k ∧ k ≤ 1000) ∧ ds.length ≤ 1000 ∧ φ (List.replicate k.toNat ds).flatten Γ2) : GF B X (.BinOp a .Mult b pos) Γ φ := fun Hs σ H Q S g =>
  pe_of (pe_op op_rep pe_W pe_W) (h Hs σ H _ S fun ds Γ1 p vs Hs1 H1 hB s1 S1 f n al hp dv => by
    have SB := S1.hold hp n f al
    refine hB ⟨upd B.fr p (.lst vs), Hs1, B.T⟩ (Same.new f) S1.gr Hs1 σ H1 _ SB fun d Γ2 v2 Hs2 H2 ⟨k, e, hk, hl, hφ⟩ s2 S2 q2 => ?_
    subst e
    cases q2
    obtain ⟨Sb, hb, nb, ab⟩ := S2.loose S1.gr f n
    have z : vs.length * k.toNat ≤ sizeLine := by
      rw [dv.len]
      refine Nat.le_trans (Nat.mul_le_mul hl (show k.toNat ≤ 1000 by omega)) (by decide)
    refine ⟨p, k, vs, rfl, rfl, hb, by omega, by omega, z, fun q hq => ?_⟩
    obtain ⟨f2, n2, al2⟩ := alone_new Sb hq
    exact g _ Γ2 q _ Hs2 _ hφ (s1.trans s2) (Sb.aside hq) f2 n2 al2 upd_same (dvs_rep (dv.mono s2) _))
end
/-! ### what repr shows -/
def GN (n k : Nat) (d : PyData) : Prop := d.showable = true ∧ d.depth ≤ k ∧ d.shown.length ≤ n
instance (n k : Nat) (d : PyData) : Decidable (GN n k d) := by unfold GN; exact inferInstance
theorem GN.mono {n k m l : Nat} {d : PyData} (h : GN n k d) (h1 : n ≤ m) (h2 : k ≤ l) : GN m l d := ⟨h.1, Nat.le_trans h.2.1 h2, Nat.le_trans h.2.2 h1⟩
theorem GN.good {n k : Nat} {d : PyData} (h : GN n k d) (h1 : n ≤ 1000000) (h2 : k ≤ 100) : Good d := ⟨h.1, Nat.le_trans h.2.1 h2, Nat.le_trans h.2.2 (Nat.le_trans h1 (by decide))⟩
theorem all_gn {n k : Nat} : ∀ {ds : List PyData}, (∀ d ∈ ds, GN n k d) → PyData.showableAll ds = true ∧ PyData.depthAll ds ≤ k ∧ piled (PyData.shownAll ds) ≤ ds.length * (n + 2)
  | [], _ => ⟨rfl, Nat.zero_le _, Nat.zero_le _⟩
  | d :: r, h => by
    obtain ⟨a1, a2, a3⟩ := h d List.mem_cons_self
    obtain ⟨b1, b2, b3⟩ := all_gn (ds := r) fun e he => h e (List.mem_cons_of_mem _ he)
    refine ⟨?_, ?_, ?_⟩
    · show (PyData.showable d && PyData.showableAll r) = true
      rw [a1, b1] <;> rfl
    · show max (PyData.depth d) (PyData.depthAll r) ≤ k
      omega
    · show piled (PyData.shown d :: PyData.shownAll r) ≤ _
      rw [piled_cons, List.length_cons, Nat.add_mul]
      omega
theorem from_le : ∀ (ts : List Str) (k : Nat) (acc : Str), (textFrom k acc ts).length ≤ acc.length + piled ts
  | [], k, acc => Nat.le_add_right _ _
  | t :: r, k, acc => by
    have ih := from_le r (k + 1) (acc ++ (if k > 0 then ", " else "" : String) ++ t)
    show (textFrom (k + 1) (acc ++ (if k > 0 then ", " else "" : String) ++ t) r).length ≤ _
    rw [piled_cons]
    have e : (acc ++ (if k > 0 then ", " else "" : String) ++ t : Str).length ≤ acc.length + 2 + t.length := by
      rw [Str.length_append, Str.length_append]
      have : (Str.ofString (if k > 0 then ", " else "" : String)).length ≤ 2 := by
        split <;> decide
      omega
    omega
theorem gn_list {n k : Nat} {ds : List PyData} (h : ∀ d ∈ ds, GN n k d) : GN (ds.length * (n + 2) + 2) (k + 1) (.list ds) := by
  obtain ⟨a1, a2, a3⟩ := all_gn h
  refine ⟨a1, Nat.succ_le_succ a2, ?_⟩
  show (textFrom 0 "[" (PyData.shownAll ds) ++ "]" : Str).length ≤ _
  rw [Str.length_append]
  have z := from_le (PyData.shownAll ds) 0 "["
  have e1 : (Str.ofString "[").length = 1 := by decide
  have e2 : (Str.ofString "]").length = 1 := by decide
  omega
theorem gn_tup {n k : Nat} {ds : List PyData} (h : ∀ d ∈ ds, GN n k d) : GN (ds.length * (n + 2) + 3) (k + 1) (.tuple ds) := by
  obtain ⟨a1, a2, a3⟩ := all_gn h
  refine ⟨a1, Nat.succ_le_succ a2, ?_⟩
  show (("(" : Str) ++ Str.join ", " (PyData.shownAll ds) ++ (if (PyData.shownAll ds).length == 1 then ",)" else ")" : String)).length ≤ _
  rw [Str.length_append, Str.length_append]
  have e1 : (Str.ofString "(").length = 1 := by decide
  have e2 : (Str.ofString (if (PyData.shownAll ds).length == 1 then ",)" else ")" : String)).length ≤ 2 := by split <;> decide
  have e3 : (Str.join ", " (PyData.shownAll ds)).length ≤ piled (PyData.shownAll ds) := by
    by_cases z : PyData.shownAll ds = []
    · rw [z]
      decide
    · have := join_length_add _ z
      omega
  omega
theorem gn_int {i : Int} (h0 : -1 ≤ i) (h1 : i ≤ 100000) : GN 13 0 (.int i) := by
  have f := Fine.int h0 h1
  exact ⟨f.sh, f.dp, of_decide_eq_true f.short⟩
end Py
namespace Py
open PySem PySem.Spec PyProof.Rows L2 Tc Px
end Py
/-! Two names at once; lists by tests; comprehensions that change something; numbers that add up. -/
namespace Py
open PySem PySem.Spec PyProof.Rows L2 Tc Px
variable [Px.Fld]
section
variable {B : Bas} {X : Cx} {Γ : List Sl} {pos : Pos} {k : Nat} {E : DE} {N : List Str}
/-- x, y = a, b -/
theorem par_n {i j : Nat} {x y : Str} {a b : Expr} {px py pt : Pos} {kt k2 : Nat} {pt2 : Pos} (c : Bod X k) (nd : N.Nodup) (eN : X.N = N) (hi : idxS X.N x = some i) (hj : idxS X.N y = some j) (hij : Nat.beq i j = false)
    (hx : X.env.scope.names.lookup x = some .local) (hy : X.env.scope.names.lookup y = some .local)
    (hw : swappedStores [.Tuple [.Name x px, .Name y py] kt pt] (.Tuple [a, b] k2 pt2) X.env = pure (some [x, y])) (hs : swapsWithSole [.Tuple [.Name x px, .Name y py] kt pt] (.Tuple [a, b] k2 pt2) pos.line X.env = pure false)
    (h : GA B X [a, b] Γ fun ds Γ1 => ∃ d e, ds = [d, e] ∧ Nat.ble (i + 1) Γ1.length = true ∧ Nat.ble (j + 1) Γ1.length = true ∧ E.nx ((Γ1.set i (.d d)).set j (.d e))) : G1 B X (.Assign [.Tuple [.Name x px, .Name y py] kt pt] (.Tuple [a, b] k2 pt2) pos) Γ E := fun D Hs σ H R S =>
  ps_of (ps_par c.calm (eN ▸ nd) (idxS_ok hi) (idxS_ok hj) (Nat.ne_of_beq_eq_false hij) hx hy pa_W hw hs) (h Hs σ H _ S fun ds Γ1 vs Hs1 H1 ⟨d, e, ed, l1, l2, p⟩ s S1 dv => by
    subst ed
    cases dv with
    | cons a1 r =>
    cases r with
    | cons a2 r =>
    cases r
    refine ⟨_, _, rfl, R.nx _ Hs1 _ H1 p s ((S1.putD (Nat.le_of_ble_eq_true l1) a1).putD (by rw [List.length_set]; exact Nat.le_of_ble_eq_true l2) a2)⟩)
/-- x, y = a, b; y a list of its own -/
theorem par_no {i j : Nat} {x y : Str} {a b : Expr} {px py pt : Pos} {kt k2 : Nat} {pt2 : Pos} (c : Bod X k) (nd : N.Nodup) (eN : X.N = N) (hi : idxS X.N x = some i) (hj : idxS X.N y = some j) (hij : Nat.beq i j = false)
    (hx : X.env.scope.names.lookup x = some .local) (hy : X.env.scope.names.lookup y = some .local)
    (hw : swappedStores [.Tuple [.Name x px, .Name y py] kt pt] (.Tuple [a, b] k2 pt2) X.env = pure (some [x, y])) (hs : swapsWithSole [.Tuple [.Name x px, .Name y py] kt pt] (.Tuple [a, b] k2 pt2) pos.line X.env = pure false)
    (h1 : starEach [a, b] X.env = (false, eval a X.env) :: starEach [b] X.env) (h2 : starEach [b] X.env = (false, eval b X.env) :: starEach [] X.env)
    (h : GE B X a Γ fun d Γ1 => GF B X b Γ1 fun ds Γ2 => Nat.ble (i + 1) Γ2.length = true ∧ Nat.ble (j + 1) Γ2.length = true ∧ ∀ ad, Alone Γ2 ad → E.nx ((Γ2.set i (.d d)).set j (.own ad ds))) : G1 B X (.Assign [.Tuple [.Name x px, .Name y py] kt pt] (.Tuple [a, b] k2 pt2) pos) Γ E := fun D Hs σ H R S =>
  ps_of (ps_par c.calm (eN ▸ nd) (idxS_ok hi) (idxS_ok hj) (Nat.ne_of_beq_eq_false hij) hx hy (pa_cons pe_W (pa_cons pe_W pa_nil h2) h1) hw hs) (show teW X a σ H _ from h Hs σ H _ S fun d Γ1 v Hs1 H1 p s1 S1 q1 => show teW X b σ H1 _ from p Hs1 σ H1 _ S1 fun ds Γ2 l vs Hs2 H2 ⟨l1, l2, p2⟩ s2 S2 f n al ha dv => by
    have S3 := S2.putD (Nat.le_of_ble_eq_true l1) (q1.mono s2)
    have al3 : Alone (Γ2.set i (.d d)) l := fun m b es e => by
      rcases get_set e with ⟨_, z⟩ | ⟨_, e⟩
      · cases z
      · exact al m b es e
    exact ⟨_, _, rfl, R.nx _ Hs2 _ H2 (p2 l al) (s1.trans s2) (S3.putL (by rw [List.length_set]; exact Nat.le_of_ble_eq_true l2) f n ha dv al3)⟩)
end
/-! ### lists of numbers from 0 on -/
structure Nats (m : Nat) (n : Int) (ds : List PyData) : Prop where
  len : ds.length = m
  nat : ∀ i, i < m → nth ds i = .int (asI (nth ds i)) ∧ 0 ≤ asI (nth ds i)
  sum : (ds.map asI).sum = n
theorem nth_set {ds : List PyData} {k i : Nat} {d : PyData} (h : k < ds.length) : nth (ds.set k d) i = if i = k then d else nth ds i := by
  show (ds.set k d).getD i .none = if i = k then d else ds.getD i .none
  rw [List.getD_eq_getElem?_getD, List.getD_eq_getElem?_getD, List.getElem?_set]
  by_cases e : k = i
  · subst e
    rw [if_pos rfl, if_pos rfl, if_pos h]
    rfl
  · rw [if_neg e, if_neg fun z => e z.symm]
theorem sum_set : ∀ {l : List Int} {k : Nat} {v : Int}, k < l.length → (l.set k v).sum = l.sum + (v - l.getD k 0)
  | x :: r, 0, v, _ => by
    show v + r.sum = x + r.sum + (v - x)
    omega
  | x :: r, k + 1, v, h => by
    have ih := sum_set (l := r) (k := k) (v := v) (by simpa using h)
    show x + (r.set k v).sum = x + r.sum + (v - r.getD k 0)
    omega
theorem Nats.put {m : Nat} {n : Int} {ds : List PyData} (N : Nats m n ds) {k : Nat} {v : Int} (hk : k < m) (hv : 0 ≤ v) : Nats m (n + (v - asI (nth ds k))) (ds.set k (.int v)) := by
  have hl : k < ds.length := by rw [N.len]; exact hk
  refine ⟨by rw [List.length_set]; exact N.len, fun i hi => ?_, ?_⟩
  · rw [nth_set hl]
    by_cases e : i = k
    · rw [if_pos e]
      exact ⟨rfl, hv⟩
    · rw [if_neg e]
      exact N.nat i hi
  · rw [List.map_set]
    rw [sum_set (by rw [List.length_map]; exact hl), N.sum]
    congr 2
    rw [List.getD_eq_getElem?_getD, List.getElem?_map]
    show (Option.map asI ds[k]?).getD 0 = asI (nth ds k)
    rw [List.getElem?_eq_getElem hl, nth_at (List.getElem?_eq_getElem hl)] <;> rfl
end Py
namespace Py
open PySem PySem.Spec PyProof.Rows L2 Tc Px
variable [Px.Fld]
theorem Nats.snoc {m : Nat} {n v : Int} {ds : List PyData} (N : Nats m n ds) (hv : 0 ≤ v) : Nats (m + 1) (n + v) (ds ++ [.int v]) := by
  have at_ : ∀ i, i ≤ m → nth (ds ++ [PyData.int v]) i = if i = m then .int v else nth ds i := fun i hi => by
    show (ds ++ [PyData.int v]).getD i .none = if i = m then .int v else ds.getD i .none
    rw [List.getD_eq_getElem?_getD, List.getD_eq_getElem?_getD]
    by_cases e : i = m
    · subst e
      rw [if_pos rfl, ← N.len, List.getElem?_append_right (Nat.le_refl _), Nat.sub_self] <;> rfl
    · rw [if_neg e, List.getElem?_append_left (by rw [N.len]; omega)]
  refine ⟨by rw [List.length_append, N.len] <;> rfl, fun i hi => ?_, ?_⟩
  · rw [at_ i (by omega)]
    by_cases e : i = m
    · rw [if_pos e]
      exact ⟨rfl, hv⟩
    · rw [if_neg e]
      exact N.nat i (by omega)
  · rw [List.map_append, List.sum_append, N.sum]
    show n + (v + 0) = n + v
    omega
end Py
/-! A dict that is written and read at once; the lists' comparisons. -/
namespace Py
open PySem PySem.Spec PyProof.Rows L2 Tc Px
end Py
/-! A text walked sign by sign; places of a text. -/
namespace Py
open PySem PySem.Spec PyProof.Rows L2 Tc Px
end Py
/-! A def called by its names, the last one first. -/
namespace Py
open PySem PySem.Spec PyProof.Rows L2 Tc Px
variable [Px.Fld]
structure CallR (P : Program) (w : World) (K : PySem.W.Frag) (mg : Str → Option Value) (base : Heap) (CX : CXT)
    (k : Nat) (x : Str) (ps : List Str) (sp : Sp) (ns : List Str) : Prop where
  ex : ∃ f fd, FnG P w K mg base CX k f fd ps sp ∧ mg x = some (.ref f) ∧ PySem.W.keepIn K (.ref f) = true ∧
    ∀ (s : Shared) (us : List Value), us.length = ns.length → BindsTo s fd ⟨[], ns.zip us⟩ (ps.zip us.reverse)
theorem vals_rev : ∀ {vs : List V} {us : List Value}, Vals vs us → Vals vs.reverse us.reverse
  | _, _, .nil => .nil
  | _, _, .cons (a := a) (b := b) r h => by
    rw [List.reverse_cons, List.reverse_cons]
    exact Vals.append (vals_rev h) (.cons r .nil)
end Py
/-! The cells of a def's names, tracked for a while. -/
namespace Py
open PySem PySem.Spec PyProof.Rows L2 Tc Px
variable [Px.Fld]
structure CellAt (X : Cx) (H : Hp) (s : Shared) (x : Str) (v : V) (c : Addr) (o : Obj) (u : Value) : Prop where
  lk : X.env.cells.lookup x = some c
  at_ : s.heap.get? c = some o
  dat : o.data = .cell (some u)
  rel : RelV v u
  no : H c = none
  nb : X.base.get? c = none
  nf : c ∉ frs X.stack
theorem cell_at {X : Cx} {pins : Pins} {σ : L2.St} {H : Hp} {s : Shared} (I : Inv X pins σ H s) {x : Str} {i : Nat} {v : V} (fn : X.fn x = true) (kd : X.env.kindOf x = some .cell) (vs : Vis X.env.scope x) (hN : X.N[i]? = some x) (hσ : σ[i]? = some (some v)) :
    ∃ c o u, CellAt X H s x v c o u := by
  obtain ⟨m, hm, hl⟩ := I.loc
  obtain ⟨u, r, hk⟩ := hl i x v hN hσ vs
  rcases hk with ⟨h1, _⟩ | ⟨_, c, hc, o, ho, hd⟩
  · rw [kd] at h1
    cases h1
  have ge := I.ok.cab x c fn hc
  have out : c ∉ X.fs := fun hb => by
    obtain ⟨_, o2, h2, _⟩ := I.ok.funs.mem hb
    exact absurd (Heap.lt_size h2) (Nat.not_lt_of_le ge)
  refine ⟨c, o, u, hc, ho, hd, r, I.freeC x c hc, ?_, ?_⟩
  · cases q : X.base.get? c with
    | none => rfl
    | some o2 => exact absurd (Heap.lt_size q) (Nat.not_lt_of_le (Nat.le_trans I.ok.bsz ge))
  · rcases I.ok.stk with e | ⟨e, ef⟩
    · rw [e]
      exact out
    · rw [e]
      intro hb
      have hb : c ∈ (X.env :: X.outer).filterMap (·.frame) := hb
      rw [List.filterMap_cons, ef] at hb
      rcases List.mem_cons.mp hb with z | z
      · obtain ⟨o2, es, ep, h2, d2, _⟩ := hm
        rw [← z, ho] at h2
        cases h2
        rw [hd] at d2
        cases d2
      · exact out z
end Py
/-! A def is called with a list of function values while the cells that they read are tracked. -/
namespace Py
open PySem PySem.Spec PyProof.Rows L2 Tc Px
end Py
/-! A def of a list that it changes, and that makes lambdas: the tables of lambdas beside. -/
namespace Py
open PySem PySem.Spec PyProof.Rows L2 Tc Px
variable [Px.Fld]
def spT (n : Nat) (pre : List PyData → List PyData → Prop) (R : List PyData → List PyData → Out → List PyData → Prop) (T : List (Addr × Str)) : Sp := fun vs H Q E => ∃ Hs a pv ws ps ds, vs = .ref a :: ws ∧ Same Hs H ∧ Hs a = none ∧ H a = some (.lst pv) ∧ DvAll Hs pv ps ∧ DvAll Hs ws ds ∧ ds.length = n ∧ pre ps ds ∧ TbN T Hs H ∧
  ∀ o ps', R ps ds o ps' → ∀ v Hs' H' pv', (∀ b u, H b = some u → b ≠ a → (∀ p ∈ T, b ≠ p.1) → H' b = some u) → Same Hs' H' → Grow H Hs Hs' → TbN T Hs' H' → H' a = some (.lst pv') → DvAll Hs' pv' ps' → o.to (fun d => Dv Hs' v d → Q v H') (fun C d => Dv Hs' v d → upE C v H' E)
section
variable {P : Program} {w : World} {K : PySem.W.Frag} {mg : Str → Option Value} {base : Heap}
theorem fn_pailTC {x qual : Str} {st : Stmt} {f : Addr} {fd : FuncData} {N ps : List Str} {k n : Nat} {cc : Addr} (T : List (Addr × Str)) (F : Fun K x qual st f fd) (hcode : fd.code = .ref cc) (S : FnScope N ps (defScope st)) (sm : ∃ o, K.lookup sysModules = some o) (hn : ps.length = n + 1) (pre : List PyData → List PyData → Prop) (R : List PyData → List PyData → Out → List PyData → Prop)
    (body : ∀ (A : Around) (outer : List Env) (s : Shared) (H : Hp) (E : XK) (B : Bas) (a : Addr) (ms ds : List PyData), ds.length = n → pre ms ds → B.T = T → (∀ p ∈ T, B.fr p.1 = none) →
      Bod (cxOf (L2.CX P w) P w K mg base N qual (defScope st) f (.ref cc) A outer s H E) k → Exc B (cxOf (L2.CX P w) P w K mg base N qual (defScope st) f (.ref cc) A outer s H E) (fun C d Γ => ∃ ms', Γ[0]? = some (.own a ms') ∧ R ms ds (.up C d) ms') →
      Gs B (cxOf (L2.CX P w) P w K mg base N qual (defScope st) f (.ref cc) A outer s H E) (defBody st) (slots0 N (.own a ms :: ds.map .d)) { nx := fun Γ => ∃ ms', Γ[0]? = some (.own a ms') ∧ R ms ds (.ok .none) ms', rt := fun d Γ => ∃ ms', Γ[0]? = some (.own a ms') ∧ R ms ds (.ok d) ms' }) :
    FnG P w K mg base (L2.CX P w) (k + 1) f fd ps (spT n pre R T) := by
  refine Fun.okGC F hcode S (fun vs H Q E h => ?_) (fun A outer s H vs Q E hr hgd h => ?_)
  · obtain ⟨Hs, a, pv, ws, ms, ds, rfl, _, _, _, _, d, l, _⟩ := h
    rw [List.length_cons, d.len, l, hn]
  · obtain ⟨Hs, a, pv, ws, ms, ds, rfl, sub, na, ha, dp, dv, l, hp, tb, q⟩ := h
    have tk := takes_of (X := cxOf (L2.CX P w) P w K mg base N qual (defScope st) f (.ref cc) A outer s H E) (E := E) rfl rfl rfl rfl
    -- all but the list and the tables
    generalize hG : (fun b => if b = a ∨ b ∈ T.map Prod.fst then none else H b : Hp) = G
    have Ga : G a = none := by rw [← hG]; exact if_pos (.inl rfl)
    have GT : ∀ p ∈ T, G p.1 = none := fun p hp => by rw [← hG]; exact if_pos (.inr (List.mem_map_of_mem hp))
    have Gb : ∀ b, b ≠ a → b ∉ T.map Prod.fst → G b = H b := fun b hb hc => by rw [← hG]; exact if_neg (fun z => z.elim hb hc)
    have GH : Same G H := fun b o e => by
      by_cases z : b = a ∨ b ∈ T.map Prod.fst
      · have e2 : G b = none := by rw [← hG]; exact if_pos z
        rw [e2] at e
        cases e
      · rw [← Gb b (fun y => z (.inl y)) (fun y => z (.inr y))]; exact e
    have S0 : Sx ⟨G, Hs, T⟩ Hs (L2.start N (.ref a :: ws)) H (slots0 N (.own a ms :: ds.map .d)) := by
      refine ⟨GH, Grow.refl _ _, sub, ?_, fun i t h => ?_, fun i j b es c fs h1 h2 n => ?_, tb⟩
      · show ((V.ref a :: ws).map some ++ List.replicate _ none).length = ((Sl.own a ms :: ds.map Sl.d) ++ _).length
        simp only [List.length_append, List.length_map, List.length_replicate, List.length_cons, dv.len]
      · rcases slots_get h with rfl | h
        · exact trivial
        · cases i with
          | zero =>
            have e : t = .own a ms := (Option.some.inj h).symm
            subst e
            exact ⟨start_get rfl, Ga, na, pv, ha, dp⟩
          | succ i =>
            obtain ⟨d, e, rfl⟩ := map_get (show (ds.map Sl.d)[i]? = some t from h)
            obtain ⟨v, ev, q⟩ := dvs_get dv e
            exact ⟨v, start_get (show (V.ref a :: ws)[i + 1]? = some v from ev), q⟩
      · rcases slots_get h1 with z | z
        · cases z
        · cases i with
          | succ i =>
            obtain ⟨d, _, z⟩ := map_get (show (ds.map Sl.d)[i]? = _ from z)
            cases z
          | zero =>
            rcases slots_get h2 with z2 | z2
            · cases z2
            · cases j with
              | zero => exact absurd rfl n
              | succ j =>
                obtain ⟨d, _, z⟩ := map_get (show (ds.map Sl.d)[j]? = _ from z2)
                cases z
    have fin : ∀ {Γ : List Sl} {Hs' : Hp} {σ' : L2.St} {H' : Hp} {ms' : List PyData}, Sx ⟨G, Hs, T⟩ Hs' σ' H' Γ → Γ[0]? = some (.own a ms') → (∀ b u, H b = some u → b ≠ a → (∀ p ∈ T, b ≠ p.1) → H' b = some u) ∧ Grow H Hs Hs' ∧ TbN T Hs' H' ∧ ∃ pv', H' a = some (.lst pv') ∧ DvAll Hs' pv' ms' := fun {Γ Hs' σ' H' ms'} Z e => by
      obtain ⟨_, _, n', pv', h', d'⟩ := Z.lst e
      have tb' : TbN T Hs' H' := Z.tb
      refine ⟨fun b u eb nb nt => Z.fr b u ((Gb b nb fun y => ?_).trans eb), ⟨Z.gr.same, fun b nb fb => ?_⟩, tb', pv', h', d'⟩
      · obtain ⟨p, hp, ep⟩ := List.mem_map.mp y
        exact nt p hp ep.symm
      · by_cases z : b = a
        · rw [z]
          exact n'
        · by_cases y : b ∈ T.map Prod.fst
          · obtain ⟨p, hp, ep⟩ := List.mem_map.mp y
            rw [← ep]
            exact tb'.2 p hp
          · exact Z.gr.off b nb (by show G b ≠ none; rw [Gb b z y]; exact fb)
    refine ⟨_, pss_W, body A outer s H E ⟨G, Hs, T⟩ a ms ds l hp rfl GT ⟨⟨hr, hgd, sm⟩, S.nd, rfl, PassesOwn.leaving⟩ ⟨_, tk, fun C d Γ v Hs' σ' H' e T dvv dd hdd => ?_⟩ _ Hs _ H ⟨fun Γ Hs' σ' H' e _ T => ?_, fun d Γ v Hs' σ' H' e _ T dvv => ?_, fun _ _ _ _ z => z.elim, fun _ _ _ _ z => z.elim⟩ S0⟩
    · obtain ⟨ms', e0, r⟩ := e
      obtain ⟨k1, k2, k3, pv', h', d'⟩ := fin T e0
      exact q (.up C d) ms' r v Hs' H' pv' k1 T.sub k2 k3 h' d' dvv dd hdd
    · obtain ⟨ms', e0, r⟩ := e
      obtain ⟨k1, k2, k3, pv', h', d'⟩ := fin T e0
      exact q (.ok .none) ms' r .non Hs' H' pv' k1 T.sub k2 k3 h' d' .non
    · obtain ⟨ms', e0, r⟩ := e
      obtain ⟨k1, k2, k3, pv', h', d'⟩ := fin T e0
      exact q (.ok d) ms' r v Hs' H' pv' k1 T.sub k2 k3 h' d' dvv
end
/-! ### a list of two lambdas -/
def over (F H : Hp) (l : List Addr) : Hp := fun b => if (F b).isSome || l.contains b then H b else none
theorem over_in {F H : Hp} {l : List Addr} {b : Addr} (h : b ∈ l) : over F H l b = H b := by
  unfold over
  rw [show l.contains b = true from List.contains_iff_mem.mpr h, Bool.or_true]
  rfl
theorem over_none {F H : Hp} {l : List Addr} {b : Addr} (e : F b = none) (h : b ∉ l) : over F H l b = none := by
  unfold over
  rw [e, show l.contains b = false from by
    cases q : l.contains b with
    | false => rfl
    | true => exact absurd (List.contains_iff_mem.mp q) h]
  rfl
theorem over_same {F H : Hp} {l : List Addr} : Same (over F H l) H := fun b u e => by
  unfold over at e
  split at e
  · exact e
  · cases e
theorem _root_.Px.Sx.under {B B2 : Bas} {Hs : Hp} {σ : L2.St} {H : Hp} {Γ : List Sl} (s : Same B.fr B2.fr) (g : Grow B.fr B.hs B2.hs) (t : B2.T = B.T) (S : Sx B2 Hs σ H Γ) : Sx B Hs σ H Γ := by
  have up : ∀ b, B.fr b ≠ none → B2.fr b ≠ none := fun b hb => by
    cases z : B.fr b with
    | none => exact absurd z hb
    | some u => rw [s b u z]; exact fun z => nomatch z
  refine ⟨s.trans S.fr, g.trans (S.gr.mono up), S.sub, S.len, fun i x h => ?_, S.ap, t ▸ S.tb⟩
  have q := S.sl i x h
  cases x with
  | own a ds =>
    obtain ⟨q1, q2, q3⟩ := q
    refine ⟨q1, ?_, q3⟩
    cases z : B.fr a with
    | none => rfl
    | some u => exact absurd q2 (up a (by rw [z]; exact fun z => nomatch z))
  | _ => exact q
theorem _root_.Px.Exc.under {B B2 : Bas} {X : Cx} {ψ : Addr → PyData → List Sl → Prop} (s : Same B.fr B2.fr) (g : Grow B.fr B.hs B2.hs) (t : B2.T = B.T) (h : Exc B X ψ) : Exc B2 X ψ := by
  obtain ⟨W, tk, q⟩ := h
  exact ⟨W, tk, fun C d Γ v Hs σ H p S => q C d Γ v Hs σ H p (S.under s g t)⟩
theorem _root_.Px.Real.under {B B2 : Bas} {D : Ends} {E : DE} {H0 : Hp} (s : Same B.fr B2.fr) (g : Grow B.fr B.hs B2.hs) (t : B2.T = B.T) (R : Real B D E H0) : Real B2 D E H0 :=
  ⟨fun Γ Hs σ H p k S => R.nx Γ Hs σ H p k (S.under s g t), fun d Γ v Hs σ H p k S q => R.rt d Γ v Hs σ H p k (S.under s g t) q, fun Γ Hs σ H p k S => R.bk Γ Hs σ H p k (S.under s g t), fun Γ Hs σ H p k S => R.ct Γ Hs σ H p k (S.under s g t)⟩
open LamX (LamS TabB Tabs CodeO)
section
variable {B : Bas} {X : Cx} {Γ : List Sl} {pos : Pos} {a b : Expr} {φ : PyData → List Sl → Prop}
theorem ge_in (kq : Bool) (hm : behindInMarks .In b = false) (h : GE B X a Γ fun d Γ1 => GQ B X kq b Γ1 fun ds Γ2 => InD d ds fun c => φ (.bool c) Γ2) : GE B X (.Compare a [.In] [b] pos) Γ φ := fun Hs σ H Q S g =>
  pe_of (pe_cmpR op_in_seq pe_W pe_W hm) (h Hs σ H _ S fun d Γ1 v Hs1 H1 p s1 S1 q1 => p Hs1 σ H1 _ S1 fun ds Γ2 c vs Hs2 H2 ⟨pd, pa, p2⟩ s2 S2 hq dv => by
    have q2 := q1.mono s2
    refine ⟨c, vs, rfl, by cases kq with | true => exact .inl hq | false => exact .inr hq, (plain_v q2).trans pd, (plains dv).trans pa, ?_⟩
    show Q (V.bl (inV v vs)) H2
    rw [plain_in q2 pd dv pa]
    exact g _ Γ2 _ Hs2 H2 p2 (s1.trans s2) S2 (.bl _))
end
end Py
/-! Instances as data: they are made once, by their __init__, and never changed. -/
namespace Py
open PySem PySem.Spec PyProof.Rows L2 Tc Px
variable [Px.Fld]
/-! ### the fields -/
/-- the field f is given d -/
def putD (f : Str) (d : PyData) : List (PyData × PyData) → List (PyData × PyData)
  | [] => [(.str f, d)]
  | (.str g, e) :: r => if g = f then (.str g, d) :: r else (.str g, e) :: putD f d r
  | p :: r => p :: r
theorem dvn_put {H : Hp} {f : Str} {v : V} {d : PyData} (q : Dv H v d) : ∀ {gs : List (Str × V)} {fs : List (PyData × PyData)}, DvNm H gs fs → DvNm H (putF f v gs) (putD f d fs)
  | _, _, .nil => .cons q .nil
  | _, _, .cons (f := g) (gs := gs) (ds := ds) a r => by
    show DvNm H (if g = f then (g, v) :: gs else (g, _) :: putF f v gs) (if g = f then _ else _)
    by_cases e : g = f
    · rw [if_pos e, if_pos e]
      exact .cons q r
    · rw [if_neg e, if_neg e]
      exact .cons a (dvn_put q r)
theorem dvn_len {H : Hp} : ∀ {gs : List (Str × V)} {fs : List (PyData × PyData)}, DvNm H gs fs → gs.length = fs.length
  | _, _, .nil => rfl
  | _, _, .cons _ r => congrArg Nat.succ (dvn_len r)
/-- the field f -/
def fldD (f : Str) : List (PyData × PyData) → Option PyData
  | [] => none
  | (.str g, e) :: r => if g = f then some e else fldD f r
  | _ :: r => fldD f r
theorem dvn_look {H : Hp} {f : Str} {d : PyData} : ∀ {gs : List (Str × V)} {fs : List (PyData × PyData)}, DvNm H gs fs → fldD f fs = some d → ∃ v, gs.lookup f = some v ∧ Dv H v d
  | _, _, .nil, h => nomatch h
  | _, _, .cons (f := g) (v := v) (gs := gs) (d := e) (ds := ds) a r, h => by
    have h : (if g = f then some e else fldD f ds) = some d := h
    rw [List.lookup_cons]
    by_cases z : g = f
    · rw [if_pos z] at h
      cases h
      subst z
      exact ⟨v, by rw [beq_self_eq_true], a⟩
    · rw [if_neg z] at h
      obtain ⟨u, q1, q2⟩ := dvn_look r h
      exact ⟨u, by rw [show (f == g) = false from beq_eq_false_iff_ne.mpr fun y => z y.symm]; exact q1, q2⟩
theorem inst_of {H : Hp} {v : V} {C : Addr} {fs : List (PyData × PyData)} (q : Dv H v (inst C fs)) : ∃ a dx gs, v = .ref a ∧ H a = some (.ins C dx gs) ∧ DvNm H gs fs := by
  have gen : ∀ {d : PyData}, Dv H v d → d = inst C fs → ∃ a dx gs, v = .ref a ∧ H a = some (.ins C dx gs) ∧ DvNm H gs fs := by
    intro d q e
    cases q with
    | dct h r =>
      cases r with
      | nil => cases e
      | cons a r =>
        rename_i k _ _ _ _
        cases k <;> cases e
    | ins h r =>
      cases e
      exact ⟨_, _, _, rfl, h, r⟩
    | _ => cases e
  exact gen q rfl
/-- what isinstance asks of the class -/
structure KlsD (K : PySem.W.Frag) (C : Addr) : Prop where
  ic : C8.InsC K C
  cls : (PySem.W.clsIn K C).isSome = true
  ty : PySem.W.typeIn K (.ref C) = some (.type "type")
theorem mro_no {a : String} (C : Addr) (h : (fastBuiltinMro a).isSome = true) (hd : a ∈ ["NoneType", "bool", "int", "str", "list", "tuple", "dict"]) : ∃ l, fastBuiltinMro a = some l ∧ l.contains (.ref C) = false := by
  simp only [List.mem_cons, List.not_mem_nil, or_false] at hd
  rcases hd with rfl | rfl | rfl | rfl | rfl | rfl | rfl
  all_goals exact ⟨_, rfl, rfl⟩
theorem kit_no {K : PySem.W.Frag} {C : Addr} {d : PyData} (k : KlsD K C) : PySem.W.kitOne K (.type (tyD d)) (.ref C) = some false := by
  have hs : (fastBuiltinMro (tyD d)).isSome = true := by
    have := metas "int" (.head _) _ (tyD_mem d)
    exact (Bool.and_eq_true_iff.mp this).2
  obtain ⟨l, e1, e2⟩ := mro_no C hs (tyD_mem d)
  unfold PySem.W.kitOne
  rw [if_neg (by rw [show ((Value.type (tyD d)) == (Value.ref C)) = false from beq_eq_false_iff_ne.mpr fun z => nomatch z]; decide)]
  unfold PySem.W.kitCls
  show (if ((PySem.W.clsIn K C).isSome && PySem.W.typeIn K (.ref C) == some (.type "type")) = true then PySem.W.subIn K (.type (tyD d)) (.ref C) else none) = _
  rw [k.cls, k.ty]
  show (fastBuiltinMro (tyD d)).map _ = _
  rw [e1]
  show some (l.contains (Value.ref C)) = _
  rw [e2]
section
variable {B : Bas} {X : Cx} {Γ : List Sl} {pos : Pos} {φ : PyData → List Sl → Prop} {a : Expr} {C : Addr} {P : Program} {w : World} {K : PySem.W.Frag} {mg : Str → Option Value} {base : Heap}
/-- isinstance(x, C) -/
theorem ge_isC {x y : Str} {p py : Pos} (hX : SameX X P w K mg base) (my : mg y = some (.ref C)) (k : KlsD K C) (hx : x = "isinstance") (hg : Gl X x) (hm : mg x = none) (gy : Gl X y)
    (h : GE B X a Γ fun d Γ1 => (notI d = true ∧ φ (.bool false) Γ1) ∨ ∃ fs, d = inst C fs ∧ φ (.bool true) Γ1)
    (he : starEach [a, .Name y py] X.env = (false, eval a X.env) :: starEach [.Name y py] X.env) (he2 : starEach [.Name y py] X.env = (false, eval (.Name y py) X.env) :: starEach [] X.env) (hpl : (backTo pos (starEach [.Name y py] X.env)).any (·.1) = false)
    (hdb : (y == ("__debug__" : Str)) = false) : GE B X (.Call (.Name x p) [a, .Name y py] [] pos) Γ φ := by
  obtain ⟨rfl, rfl, rfl, rfl, rfl⟩ := hX
  subst hx
  refine fun Hs σ H Q S g => pe_of (pe_callB call_isi hg hm (by decide +kernel) (pa_cons pe_W (pa_cons (pe_glob (v := .ref C) gy my rfl hdb) pa_nil he2) he) (he := he) (hpl := hpl)) (show teW X a σ H _ from h Hs σ H _ S fun d Γ1 v Hs1 H1 p s S1 q => ?_)
  have q := q.mono S1.sub
  rcases p with ⟨ni, p⟩ | ⟨fs, rfl, p⟩
  · exact ⟨v, .ref C, _, _, _, rfl, .own C, q.ty ni, kit_no k, g _ Γ1 _ Hs1 H1 p s S1 (.bl _)⟩
  · obtain ⟨b, dx, gs, rfl, hb, _⟩ := inst_of q
    exact ⟨.ref b, .ref C, .ref C, _, _, rfl, .own C, .base (TyOf.ins hb k.ic.cl k.ic.ha k.ic.hn k.ic.htk k.ic.hm), k.ic.me, g _ Γ1 _ Hs1 H1 p s S1 (.bl _)⟩
/-- a property that tells a field -/
structure PropD (P : Program) (w : World) (K : PySem.W.Frag) (mg : Str → Option Value) (base : Heap) (C : Addr) (f g : Str) (j : Nat) : Prop where
  ex : ∃ (pa fa : Addr) (fd : FuncData), PropOf K C f pa fa ∧ FnOk P w K mg base (L2.CX P w) j fa fd ["self"] (getSp C g) ∧ Binds K fd ["self"] []
  cl : Cls K C
theorem passNF {X : Cx} : Passes (L2.CX X.prog X.w) X.nox (fun _ _ _ => False) := fun pins σ H s e s' I c => by
  obtain ⟨_, _, _, _, _, _, _, _, _, _, _, _, h⟩ := c
  exact h.elim
theorem ge_prop {f g : Str} {k j : Nat} (hX : SameX X P w K mg base) (D : PropD P w K mg base C f g j) (c : Cxt X k) (hj : Nat.ble (j + 1) k = true)
    (h : GE B X a Γ fun d Γ1 => ∃ fs d', d = inst C fs ∧ fldD g fs = some d' ∧ φ d' Γ1) (hab : attributeBase a f X.env (eval a X.env) = eval a X.env) : GE B X (.Attribute a f pos) Γ φ := by
  obtain ⟨rfl, rfl, rfl, rfl, rfl⟩ := hX
  obtain ⟨pa, fa, fd, hp, F, hb⟩ := D.ex
  refine fun Hs σ H Q S g0 => pe_of (pe_prop pe_W D.cl hp F (c.room.mono (Nat.le_of_ble_eq_true hj)) hb .nil passNF hab) (show teW X a σ H _ from h Hs σ H _ S fun d Γ1 v Hs1 H1 ⟨fs, d', e, l, p⟩ s S1 q => ?_)
  subst e
  obtain ⟨b, dx, gs, rfl, hb2, nm⟩ := inst_of q
  obtain ⟨u, l2, q2⟩ := dvn_look nm l
  exact ⟨b, dx, gs, rfl, S1.sub _ _ hb2, b, dx, gs, u, rfl, S1.sub _ _ hb2, l2, g0 d' Γ1 u Hs1 H1 p s S1 q2⟩
/-- a field that is read by its own name (inside of the class) -/
theorem ge_fld {f : Str} (eK : X.K = K) (cl : Cls K C) (no : NoAttr K C f) (h : GE B X a Γ fun d Γ1 => ∃ fs d', d = inst C fs ∧ fldD f fs = some d' ∧ φ d' Γ1) (hab : attributeBase a f X.env (eval a X.env) = eval a X.env) : GE B X (.Attribute a f pos) Γ φ := by
  subst eK
  refine fun Hs σ H Q S g0 => pe_of (pe_fld pe_W hab) (show teW X a σ H _ from h Hs σ H _ S fun d Γ1 v Hs1 H1 ⟨fs, d', e, l, p⟩ s S1 q => ?_)
  subst e
  obtain ⟨b, dx, gs, rfl, hb2, nm⟩ := inst_of q
  obtain ⟨u, l2, q2⟩ := dvn_look nm l
  exact ⟨b, C, dx, gs, u, rfl, S1.sub _ _ hb2, cl, no, l2, g0 d' Γ1 u Hs1 H1 p s S1 q2⟩
end
end Py
/-! An instance is made: its __init__ gives it its fields. -/
namespace Py
open PySem PySem.Spec PyProof.Rows L2 Tc Px
variable [Px.Fld]
/-- what an __init__ gives: the fields, or an error -/
inductive OutI where
  | ok (fs : List (PyData × PyData))
  | up (C : Addr) (d : PyData)
def OutI.to (o : OutI) (Q : List (PyData × PyData) → Prop) (E : Addr → PyData → Prop) : Prop := match o with
  | .ok fs => Q fs
  | .up C d => E C d
def spI (C : Addr) (n : Nat) (pre : List PyData → Prop) (f : List PyData → OutI) : Sp := fun vs H Q E => ∃ (Hs : Hp) (a dx : Addr) (ws : List V) (ds : List PyData), vs = .ref a :: ws ∧ Same Hs H ∧ Hs a = none ∧ H a = some (.ins C dx []) ∧ DvAll Hs ws ds ∧ ds.length = n ∧ pre ds ∧
  ∀ v Hs' H' gs', (∀ b u, H b = some u → b ≠ a → H' b = some u) → Same Hs' H' → Grow H Hs Hs' → H' a = some (.ins C dx gs') → (f ds).to (fun fs => DvNm Hs' gs' fs → v = .non → Q .non H') (fun E' d => Dv Hs' v d → upE E' v H' E)
/-- the statements of an __init__, its fields told -/
def GI0 (F h0 : Hp) (T : List (Addr × Str)) (X : Cx) (a C dx : Addr) (sts : List Stmt) (fs : List (PyData × PyData)) (Γ : List Sl) (fin : List (PyData × PyData) → Prop) : Prop :=
  ∀ (hs Hs : Hp) (gs : List (Str × V)) (σ : L2.St) (H : Hp) (D : Ends), F a = none → hs a = none → Grow F h0 hs → DvNm Hs gs fs → Sx ⟨upd F a (.ins C dx gs), hs, T⟩ Hs σ H Γ →
    (∀ fs' gs' Γ' hs' Hs' σ' H', fin fs' → Grow F h0 hs' → hs' a = none → Sx ⟨upd F a (.ins C dx gs'), hs', T⟩ Hs' σ' H' Γ' → DvNm Hs' gs' fs' → D.nx σ' H') → tssW X sts D σ H
section
variable {F h0 : Hp} {T : List (Addr × Str)} {X : Cx} {a C dx : Addr} {st : Stmt} {sts : List Stmt} {fs : List (PyData × PyData)} {Γ : List Sl} {fin : List (PyData × PyData) → Prop}
theorem gi_nil (h : fin fs) : GI0 F h0 T X a C dx [] fs Γ fin := fun hs Hs gs σ H D fa ha g nm S k => pss_of pss_nil (show D.nx σ H from k fs gs Γ hs Hs σ H h g ha S nm)
theorem gi_st {ψ : Addr → PyData → List Sl → Prop} (ex : ∀ gs hs, Grow F h0 hs → hs a = none → Exc ⟨upd F a (.ins C dx gs), hs, T⟩ X ψ) (h : ∀ gs hs, Exc ⟨upd F a (.ins C dx gs), hs, T⟩ X ψ → G1 ⟨upd F a (.ins C dx gs), hs, T⟩ X st Γ { nx := fun Γ' => GI0 F h0 T X a C dx sts fs Γ' fin, rt := fun _ _ => False }) : GI0 F h0 T X a C dx (st :: sts) fs Γ fin :=
  fun hs Hs gs σ H D fa ha g nm S k => pss_of (pss_cons (u := tssW X sts) ps_W pss_W) (show tsW X st { D with nx := tssW X sts D } σ H from
    h gs hs (ex gs hs g ha) { D with nx := tssW X sts D } Hs σ H ⟨fun Γ' Hs' σ' H' p s' S' => p hs Hs' gs σ' H' D fa ha g (nm.mono s') S' k, fun _ _ _ _ _ _ z => z.elim, fun _ _ _ _ z => z.elim, fun _ _ _ _ z => z.elim⟩ S)
theorem gi_fld {x f : Str} {i : Nat} {px ap pos : Pos} {e : Expr} (cl : Cls X.K C) (no : NoAttr X.K C f) (hl : fs.length < 1000) (hN : idxS X.N x = some i) (hv : Sees X.env.scope x = true) (hΓ : Γ[i]? = some (.v (.ref a)))
    (h : ∀ gs hs, GE ⟨upd F a (.ins C dx gs), hs, T⟩ X e Γ fun d Γ1 => Γ1 = Γ ∧ GI0 F h0 T X a C dx sts (putD f d fs) Γ fin)
    (hd : (x == ("__debug__" : Str)) = false) (hcd : (x == ("__classdict__" : Str)) = false) (hs1 : swapsWith e (some (.Attribute (.Name x px) f ap)) pos.line X.env = pure false) : GI0 F h0 T X a C dx (.Assign [.Attribute (.Name x px) f ap] e pos :: sts) fs Γ fin := by
  intro hs Hs gs σ H D fa ha g nm S k
  refine pss_of (pss_cons (u := tssW X sts) ps_W pss_W) (show tsW X _ { D with nx := tssW X sts D } σ H from ps_of (ps_fld (pe_var (idxS_ok hN) (sees_ok hv) hd hcd) pe_W hs1) ?_)
  refine show teW X e σ H _ from h gs hs Hs σ H _ S fun d Γ1 v Hs1 H1 ⟨eΓ, p⟩ s1 S1 q => ?_
  subst eΓ
  obtain ⟨S2, hb, nb, ab⟩ := S1.loose g fa ha
  refine ⟨.ref a, S.val hΓ, a, C, dx, gs, rfl, hb, cl, no, by rw [dvn_len nm]; exact hl, ?_⟩
  have S3 := S2.beside (o := .ins C dx (putF f v gs)) hb rfl nb fa ab
  have S4 := S3.hold upd_same nb fa ab
  exact p Hs1 Hs1 (putF f v gs) σ _ D fa nb S2.gr (dvn_put q (nm.mono s1)) S4 k
end
section
variable {P : Program} {w : World} {K : PySem.W.Frag} {mg : Str → Option Value} {base : Heap}
theorem fn_init {x qual : Str} {st : Stmt} {f C : Addr} {fd : FuncData} {N ps : List Str} {k n : Nat} (F : Fun K x qual st f fd) (S : FnScope N ps (defScope st)) (sm : ∃ o, K.lookup sysModules = some o) (hn : ps.length = n + 1) (pre : List PyData → Prop) (fI : List PyData → OutI)
    (body : ∀ (cdv : Value) (A : Around) (outer : List Env) (s : Shared) (H : Hp) (E : XK) (G Hs : Hp) (a dx : Addr) (ds : List PyData), ds.length = n → pre ds →
      Bod (cxOf (L2.CX P w) P w K mg base N qual (defScope st) f cdv A outer s H E) k → (∀ gs hs, Grow G Hs hs → hs a = none → Exc ⟨upd G a (.ins C dx gs), hs, []⟩ (cxOf (L2.CX P w) P w K mg base N qual (defScope st) f cdv A outer s H E) (fun C' d _ => fI ds = .up C' d)) →
      GI0 G Hs [] (cxOf (L2.CX P w) P w K mg base N qual (defScope st) f cdv A outer s H E) a C dx (defBody st) [] (slots0 N (.v (.ref a) :: ds.map .d)) fun fs => fI ds = .ok fs) :
    FnG P w K mg base (L2.CX P w) (k + 1) f fd ps (spI C n pre fI) := by
  refine Fun.okG F S (fun vs H Q E h => ?_) (fun cdv A outer s H vs Q E hr hgd h => ?_)
  · obtain ⟨Hs, a, dx, ws, ds, rfl, _, _, _, d, l, _⟩ := h
    rw [List.length_cons, d.len, l, hn]
  · obtain ⟨Hs, a, dx, ws, ds, rfl, sub, na, ha, dv, l, hp, q⟩ := h
    have tk := takes_of (X := cxOf (L2.CX P w) P w K mg base N qual (defScope st) f cdv A outer s H E) (E := E) rfl rfl rfl rfl
    -- all but the instance
    generalize hG : (fun b => if b = a then none else H b : Hp) = G
    have Ga : G a = none := by rw [← hG]; exact if_pos rfl
    have Gb : ∀ b, b ≠ a → G b = H b := fun b hb => by rw [← hG]; exact if_neg hb
    have up : upd G a (.ins C dx []) = H := by
      funext b
      by_cases z : b = a
      · rw [z, upd_same, ha]
      · rw [upd_ne z, Gb b z]
    have S0 : Sx ⟨upd G a (.ins C dx []), Hs, []⟩ Hs (L2.start N (.ref a :: ws)) H (slots0 N (.v (.ref a) :: ds.map .d)) := by
      refine ⟨by show Same (upd G a _) H; rw [up]; exact Same.refl _, Grow.refl _ _, sub, ?_, fun i t h => ?_, fun i j b es c fs h1 h2 n => ?_, tabs_nil⟩
      · show ((V.ref a :: ws).map some ++ List.replicate _ none).length = ((Sl.v (.ref a) :: ds.map Sl.d) ++ _).length
        simp only [List.length_append, List.length_map, List.length_replicate, List.length_cons, dv.len]
      · rcases slots_get h with rfl | h
        · exact trivial
        · cases i with
          | zero =>
            have e : t = .v (.ref a) := (Option.some.inj h).symm
            subst e
            exact start_get rfl
          | succ i =>
            obtain ⟨d, e, rfl⟩ := map_get (show (ds.map Sl.d)[i]? = some t from h)
            obtain ⟨v, ev, q⟩ := dvs_get dv e
            exact ⟨v, start_get (show (V.ref a :: ws)[i + 1]? = some v from ev), q⟩
      · rcases slots_get h1 with z | z
        · cases z
        · cases i with
          | succ i =>
            obtain ⟨d, _, z⟩ := map_get (show (ds.map Sl.d)[i]? = _ from z)
            cases z
          | zero => cases z
    have gG : ∀ {hs' : Hp}, Grow G Hs hs' → hs' a = none → Grow H Hs hs' := fun g n => ⟨g.same, fun b nb fb => by
      by_cases z : b = a
      · rw [z]
        exact n
      · exact g.off b nb (by rw [Gb b z]; exact fb)⟩
    refine ⟨_, pss_W, body cdv A outer s H E G Hs a dx ds l hp ⟨⟨hr, hgd, sm⟩, S.nd, rfl, PassesOwn.leaving⟩ (fun gs hs g n => ⟨_, tk, fun C' d Γ v Hs' σ' H' e T dvv dd hdd => ?_⟩) Hs Hs [] _ H _ Ga na (Grow.refl _ _) .nil S0 fun fs' gs' Γ' hs' Hs' σ' H' e g n T nm => ?_⟩
    · obtain ⟨T2, hb, nb, ab⟩ := T.loose g Ga n
      have z := q v Hs' H' gs (fun b u eb nb' => T2.fr b u (by show G b = some u; rw [Gb b nb']; exact eb)) T2.sub (gG T2.gr nb) hb
      rw [show fI ds = .up C' d from e] at z
      exact z dvv dd hdd
    · obtain ⟨T2, hb, nb, ab⟩ := T.loose g Ga n
      have z := q .non Hs' H' gs' (fun b u eb nb' => T2.fr b u (by show G b = some u; rw [Gb b nb']; exact eb)) T2.sub (gG T2.gr nb) hb
      rw [show fI ds = .ok fs' from e] at z
      exact z nm rfl
end
end Py
/-! C(..): an instance is made. -/
namespace Py
open PySem PySem.Spec PyProof.Rows L2 Tc Px
variable [Px.Fld]
theorem make_guards {A : Around} {C : Addr} {us : List Value} {kw : List (Str × Value)} (h : A.guards = some []) : (A.under (.builtin "type.__call__" ⟨.ref C :: us, kw⟩)).guards = some [] := by
  have e : (A.under (.builtin "type.__call__" ⟨.ref C :: us, kw⟩)).guards = PySem.pushGuards (Code.guards (.builtin "type.__call__" ⟨.ref C :: us, kw⟩)) A.guards := rfl
  rw [e, h, show Code.guards (.builtin "type.__call__" ⟨.ref C :: us, kw⟩) = [] from by simp [Code.guards, Code.isGuard, show ¬ "type.__call__" ∈ guardIds from by decide +kernel]]
  rfl
section
variable {X : Cx} {k : Nat} {C f : Addr} {fd : FuncData} {ps : List Str} {sp : Sp} {E : XK} {σ : L2.St} {H : Hp} {s : Shared} {Q : VK} {pins : Pins}
theorem run_makeG {us : List Value} {vs : List V} (M : Mk X.K C f) (F : FnG X.prog X.w X.K X.mg X.base (L2.CX X.prog X.w) k f fd ps sp) (hr : Room (k + 1) X.A) (hgd : X.A.guards = some []) (hb : Binds X.K fd ps [])
    (hx : PassesAt (L2.CX X.prog X.w) X σ E) (I : Inv X pins σ H s) (r : Vals vs us)
    (h : ∀ x dx, H x = none → H dx = none → dx ≠ x → sp (.ref x :: vs) (upd (upd H dx (.own x)) x (.ins C dx [])) (fun v H2 => v = .non ∧ Q (.ref x) H2) E) :
    wpAny (model X.prog X.w) X.A (call (.ref C) us) (EP X pins σ Q) X.xe s := by
  have hq := h (s.heap.objs.size + 1) s.heap.objs.size (I.hok.fresh (Nat.le_succ _)) (I.hok.fresh (Nat.le_refl _)) (Nat.ne_of_lt (Nat.lt_succ_self _))
  have I2 := Inv.made (C := C) I
  have r2 : Vals (V.ref (s.heap.objs.size + 1) :: vs) (Value.ref (s.heap.objs.size + 1) :: us) := .cons rfl r
  have hl : (Value.ref (s.heap.objs.size + 1) :: us ++ []).length = ps.length := by
    rw [List.append_nil]
    have e := r2.length
    rw [F.len _ _ _ _ hq] at e
    exact e.symm
  have bd := hb _ (Value.ref (s.heap.objs.size + 1) :: us) I2.kIn hl
  rw [List.append_nil] at bd
  refine wpAny_call (make_map (f := f) I.kIn M.makes M.init (beq_iff_eq.mp M.fn) (codeAny_mono (F.run _ X.stack _ _ ⟨Value.ref (s.heap.objs.size + 1) :: us, []⟩ (Value.ref (s.heap.objs.size + 1) :: us) _ _ E (hr.make C us []) (make_guards hgd)
    (I2.env0.make C us []) bd r2 hq) fun r s' hq' => ?_))
  cases r with
  | error e => exact hx pins _ _ e s' I2 hq'
  | ok fl =>
    cases fl with
    | ret u =>
      obtain ⟨v, H', I3, rv, ev, q3⟩ := I2.after hq'
      subst ev
      exact ⟨rv, ⟨V.ref (s.heap.objs.size + 1), H', I3, rfl, q3⟩⟩
    | next => exact False.elim hq'
    | brk => exact False.elim hq'
    | cont => exact False.elim hq'
end
/-- a class whose instances are made by its __init__ -/
structure MakeD (P : Program) (w : World) (K : PySem.W.Frag) (mg : Str → Option Value) (base : Heap) (j : Nat) (x : Str) (C : Addr) (n : Nat) (ps : List Str) (pre : List PyData → Prop) (fI : List PyData → OutI) : Prop where
  ex : ∃ (f : Addr) (fd : FuncData), Mk K C f ∧ FnG P w K mg base (L2.CX P w) j f fd ps (spI C n pre fI) ∧ Binds K fd ps []
  gm : mg x = some (.ref C)
section
variable {B : Bas} {X : Cx} {Γ : List Sl} {pos : Pos} {k j n : Nat} {C : Addr} {P : Program} {w : World} {K : PySem.W.Frag} {mg : Str → Option Value} {base : Heap}
theorem ge_make {x : Str} {p : Pos} {e : Expr} {es : List Expr} {ps : List Str} {pre : List PyData → Prop} {fI : List PyData → OutI} {ψ : Addr → PyData → List Sl → Prop} {φ : PyData → List Sl → Prop} (hX : SameX X P w K mg base) (M : MakeD P w K mg base j x C n ps pre fI) (c : Cxt X k) (hj : Nat.ble (j + 1) k = true) (hg : Gl X x) (ex : Exc B X ψ)
    (h : GA B X (e :: es) Γ fun ds Γ1 => ds.length = n ∧ pre ds ∧ (fI ds).to (fun fs => φ (inst C fs) Γ1) (fun C' d => ψ C' d Γ1)) (hdb : (x == ("__debug__" : Str)) = false)
    (he : starEach (e :: es) X.env = (false, eval e X.env) :: starEach es X.env) (hpl : (backTo pos (starEach es X.env)).any (·.1) = false) : GE B X (.Call (.Name x p) (e :: es) [] pos) Γ φ := by
  obtain ⟨rfl, rfl, rfl, rfl, rfl⟩ := hX
  obtain ⟨f, fd, Mm, F, hb⟩ := M.ex
  intro Hs σ H Q S g
  obtain ⟨W, tk, hW⟩ := ex
  refine teI fun pins s I => ?_
  refine wpAny_Call_Name_kw (ld_glob I hg M.gm ?_ hdb)
  refine PySem.W.callWith_K (h₀ := X.base) I.ok.mod.kin Mm.kp (thn (taE (h Hs σ H _ S fun ds Γ1 vs Hs1 H1 p s1 S1 dv => ?_ : taW X (e :: es) σ H fun vs H1 => ∀ x dx, H1 x = none → H1 dx = none → dx ≠ x → spI C n pre fI (.ref x :: vs) (upd (upd H1 dx (.own x)) x (.ins C dx [])) (fun v H2 => v = .non ∧ Q (.ref x) H2) fun cl d H' => W cl d σ H') pos pins s I) ?_) he hpl
  · obtain ⟨l, hp, q⟩ := p
    intro y dx hy hd ne
    have ny : ∀ b u, H1 b = some u → b ≠ y := fun b u e z => by rw [z, hy] at e; cases e
    have nd : ∀ b u, H1 b = some u → b ≠ dx := fun b u e z => by rw [z, hd] at e; cases e
    have k1 : Same H1 (upd (upd H1 dx (.own y)) y (.ins C dx [])) := fun b u e => by rw [upd_ne (ny b u e), upd_ne (nd b u e)]; exact e
    refine ⟨Hs1, y, dx, vs, ds, rfl, S1.sub.trans k1, S1.sub.free hy, upd_same, dv, l, hp, fun v Hs2 H2 gs r1 r2 r3 r4 => ?_⟩
    have k2 : Same H1 H2 := fun b u e => r1 b u (k1 b u e) (ny b u e)
    have ny2 : Hs2 y = none := r3.off y (S1.sub.free hy) (by rw [upd_same]; exact fun z => nomatch z)
    have g2 : Grow H1 Hs1 Hs2 := ⟨r3.same, fun b n f => by
      cases z : H1 b with
      | none => exact absurd z f
      | some u => exact r3.off b n (by rw [k1 b u z]; exact fun z => nomatch z)⟩
    cases e : fI ds with
    | ok fs =>
      rw [e] at q
      intro nm hv
      refine ⟨rfl, ?_⟩
      have g3 : Grow H1 Hs1 (upd Hs2 y (.ins C dx gs)) := g2.trans ⟨Same.new ny2, fun b n f => by
        cases z : H1 b with
        | none => exact absurd z f
        | some u => rw [upd_ne (ny b u z)]; exact n⟩
      have u3 : Same (upd Hs2 y (.ins C dx gs)) H2 := fun b u e => by
        by_cases z : b = y
        · rw [z, upd_same] at e
          rw [z, r4]
          exact e
        · rw [upd_ne z] at e
          exact r2 b u e
      obtain ⟨s2, S2⟩ := S1.step g3 k2 u3
      exact g _ Γ1 (.ref y) _ H2 q (s1.trans s2) S2 (.ins upd_same (nm.mono (Same.new ny2)))
    | up C' d =>
      rw [e] at q
      obtain ⟨s2, S2⟩ := S1.step g2 k2 r2
      exact fun dvv dd hdd => hW C' d Γ1 v Hs2 σ H2 q S2 dvv dd hdd
  · rintro us s1 ⟨vs, H1, I1, r, q⟩
    exact ⟨I1.kIn, run_makeG Mm F (c.room.mono (Nat.le_of_ble_eq_true hj)) c.gd hb (fun pins H s e s' I c => tk e s' (XE.of_call I (fun _ _ _ h => h) c)) I1 r q⟩
end
end Py
/-! Stars in displays, xs[::-1], a while that isn't entered. -/
namespace Py
open PySem PySem.Spec PyProof.Rows L2 Tc Px
variable [Px.Fld]
section
variable {B : Bas} {X : Cx} {Γ : List Sl} {pos : Pos} {E : DE}
theorem dvs_app {H : Hp} {vs ws : List V} {ds es : List PyData} (a : DvAll H vs ds) (b : DvAll H ws es) : DvAll H (vs ++ ws) (ds ++ es) := dvs_append a b
theorem ga_star (kq : Bool) {e : Expr} {p : Pos} {es : List Expr} {φ : List PyData → List Sl → Prop} (h : GQ B X kq e Γ fun ds Γ1 => GA B X es Γ1 fun rs Γ2 => φ (ds ++ rs) Γ2) (hs : starEach (.Starred e p :: es) X.env = (true, eval e X.env) :: starEach es X.env) : GA B X (.Starred e p :: es) Γ φ := fun Hs σ H Q S g =>
  pa_of (StX.pa_star pe_W pa_W hs) (h Hs σ H _ S fun ds Γ1 a vs Hs1 H1 p s1 S1 hq dv => ⟨a, vs, rfl, by cases kq with | true => exact .inr hq | false => exact .inl hq, p Hs1 σ H1 _ S1 fun rs Γ2 ws Hs2 H2 q s2 S2 dvs => g (ds ++ rs) Γ2 (vs ++ ws) Hs2 H2 q (s1.trans s2) S2 (dvs_app (dv.mono s2) dvs)⟩)
theorem ge_lelele {a b c d : Expr} {φ : PyData → List Sl → Prop} (hm : lastMarks [.LtE, .LtE, .LtE] [b, c, d] = false)
    (h : GE B X a Γ fun d1 Γ1 => GE B X b Γ1 fun d2 Γ2 => LeD d1 d2 fun t => if t = true then GE B X c Γ2 fun d3 Γ3 => LeD d2 d3 fun u => if u = true then GE B X d Γ3 fun d4 Γ4 => LeD d3 d4 fun v => φ (.bool v) Γ4 else φ (.bool false) Γ3 else φ (.bool false) Γ2) :
    GE B X (.Compare a [.LtE, .LtE, .LtE] [b, c, d] pos) Γ φ := fun Hs σ H Q S g =>
  pe_of (pe_chain3 op_le op_le op_le pe_W pe_W pe_W pe_W hm) (h Hs σ H _ S fun d1 Γ1 v1 Hs1 H1 p s1 S1 q1 => p Hs1 σ H1 _ S1 fun d2 Γ2 v2 Hs2 H2 p2 s2 S2 q2 =>
    sem_ord d1 d2 _ p2 H2 v1 v2 _ ((q1.mono s2).mono S2.sub) (q2.mono S2.sub) fun t kt => ⟨t, rfl, by
      cases t with
      | true =>
        have kt : GE B X c Γ2 fun d3 Γ3 => LeD d2 d3 fun u => if u = true then GE B X d Γ3 fun d4 Γ4 => LeD d3 d4 fun v => φ (.bool v) Γ4 else φ (.bool false) Γ3 := kt
        refine iteT (kt Hs2 σ H2 _ S2 fun d3 Γ3 v3 Hs3 H3 p3 s3 S3 q3 => sem_ord d2 d3 _ p3 H3 v2 v3 _ ((q2.mono s3).mono S3.sub) (q3.mono S3.sub) fun u ku => ⟨u, rfl, ?_⟩)
        cases u with
        | true =>
          have ku : GE B X d Γ3 fun d4 Γ4 => LeD d3 d4 fun v => φ (.bool v) Γ4 := ku
          exact iteT (ku Hs3 σ H3 _ S3 fun d4 Γ4 v4 Hs4 H4 p4 s4 S4 q4 => sem_ord d3 d4 _ p4 H4 v3 v4 _ ((q3.mono s4).mono S4.sub) (q4.mono S4.sub) fun z kz => g _ Γ4 _ Hs4 H4 kz (s1.trans (s2.trans (s3.trans s4))) S4 (.bl z))
        | false => exact iteF (g _ Γ3 _ Hs3 H3 ku (s1.trans (s2.trans s3)) S3 (.bl false))
      | false => exact iteF (g _ Γ2 _ Hs2 H2 kt (s1.trans s2) S2 (.bl false))⟩)
end
end Py
/-! enumerate of a tuple. -/
namespace PySem
open Sem (wp)
open AutoSeq1 (wpAny_loadPart')
theorem meets_enumerate_newTp (l : Addr) (items : Array Value) (n : Nat) (dct : Option Addr) (sl : Array (Option Value)) :
    Meets (Builtin.«enumerate.__new__» ⟨[.type "enumerate", .ref l], []⟩) (fun _ R s => s.heap.get? l = some { cls := .type "tuple", dict := dct, data := .seq items n, slots := sl } ∧
      R (.ok (.ret (.ref (s.heap.push { cls := .type "tuple_iterator", data := .fields #[.ref l, .int 0 0] }).objs.size)))
        { s with heap := (s.heap.push { cls := .type "tuple_iterator", data := .fields #[.ref l, .int 0 0] }).push { cls := .type "enumerate", data := .fields #[.none, .bool false, .ref s.heap.objs.size, rawInt 0, .none, .none] } }) :=
  .of_wp fun prog w A R s h => by
    obtain ⟨hp, g, d, tk, os⟩ := s; obtain ⟨hl, h⟩ := h
    have hsub := sub_enumerate
    have hL : Heap.IsTuple (Shared.heap ⟨hp, g, d, tk, os⟩) l items := ⟨_, hl, rfl, n, rfl⟩
    wp_walk using wpAny_loadPart' hl
    refine wpAny_stack_any fun st => wpAny_pure ?_
    split
    · rename_i c _ _ _ _ _
      cases (c == Value.type "enumerate")
      · wp_walk using wpAny_loadPart' hl, wpAny_pyIter_tuple hL
        exact ⟨_, rfl, h⟩
      · wp_walk using wpAny_loadPart' hl, wpAny_pyIter_tuple hL
        exact ⟨_, rfl, h⟩
    · wp_walk using wpAny_loadPart' hl, wpAny_pyIter_tuple hL
      exact ⟨_, rfl, h⟩
section
variable {prog : Program} {w : World} {A : Around} {E : Value → Shared → Prop} {s : Shared}
theorem call_enumerate_tup {l : Addr} {items : Array Value} {Q : Value → Shared → Prop} (hL : s.heap.IsTuple l items)
    (h : ∀ h', IsEnum h' (s.heap.objs.size + 1) s.heap.objs.size 0 .none → h'.IsTupleIter s.heap.objs.size l 0 → h'.objs.size = s.heap.objs.size + 2 →
      (∀ b o, s.heap.get? b = some o → h'.get? b = some o) → Q (.ref (s.heap.objs.size + 1)) { s with heap := h' }) :
    wpAny (model prog w) A (call (.type "enumerate") [.ref l]) Q E s := by
  obtain ⟨⟨c, dct, dt, sl⟩, hl, hc, n, hd⟩ := hL
  replace hc : c = .type "tuple" := hc
  replace hd : dt = .seq items n := hd
  subst hc hd
  refine callType_new F.called_enumerate (by decide) (F.typeCall_enumerate_1 _) (F.newCall_enumerate_1 _) (fun obj => F.args_object_init_2 obj _) F.entry_enumerate_new
    (meets_enumerate_newTp l items n dct sl) ⟨hl, ?_⟩
  have hz : (s.heap.push { cls := .type "tuple_iterator", data := .fields #[.ref l, .int 0 0] }).objs.size = s.heap.objs.size + 1 := Heap.size_push ..
  show _ ∧ _
  rw [hz]
  have he : IsEnum ((s.heap.push { cls := .type "tuple_iterator", data := .fields #[.ref l, .int 0 0] }).push
      { cls := .type "enumerate", data := .fields #[.none, .bool false, .ref s.heap.objs.size, rawInt 0, .none, .none] }) (s.heap.objs.size + 1) s.heap.objs.size 0 .none := by
    have := Heap.get?_push_size (s.heap.push { cls := .type "tuple_iterator", data := .fields #[.ref l, .int 0 0] })
      (o := { cls := .type "enumerate", data := .fields #[.none, .bool false, .ref s.heap.objs.size, rawInt 0, .none, .none] }) rfl
    rw [hz] at this; exact this
  refine ⟨⟨_, he, rfl⟩, h _ he ⟨_, Heap.get?_push_of_some _ (Heap.get?_push_size _ rfl), rfl, rfl⟩ (by rw [Heap.size_push, hz]) fun b o x => Heap.get?_push_of_some _ (Heap.get?_push_of_some _ x)⟩
end
end PySem
namespace Tz
open PySem PySem.Spec PyProof.Rows L2
theorem draws_tup {prog : Program} {w : World} {A : Around} {it a : Addr} {xs : Array Value} (hh : A.handled = none) (ne : a ≠ it) :
    Draws prog w A it [it, a] xs.size (fun i x => xs[i]? = some x) (fun i h => Run2 false h it a i ∧ Seq2 false h a xs) where
  live := fun i h st => by
    obtain ⟨o, _, e, _⟩ := st.1.obj
    exact ⟨o, e⟩
  frame := fun i h h' st k => ⟨st.1.on fun o e => k it (by simp) o e, by
    obtain ⟨o, e, r⟩ := (st.2 : h.IsTuple a xs)
    exact ⟨o, k a (by simp) o e, r⟩⟩
  item := fun i s Q E hi st hQ => by
    obtain ⟨r, q⟩ := st
    have e : xs[i]? = some xs[i] := Array.getElem?_eq_getElem hi
    exact step_one r q e fun h' r' sb => hQ xs[i] h' s.toks e ⟨r', q.but sb.extBut ne⟩ sb
  done := fun s Q E st hE => by
    obtain ⟨r, q⟩ := st
    exact step_end hh r q (by simp) hE
/-- the tuple at a as it stands at each turn, each item in a new pair -/
def Itet (K : PySem.W.Frag) (a : Addr) : It :=
  ⟨fun i H => ∃ (xs : List V) (x : V), SqT K H a xs ∧ xs[i]? = some x, fun i H v H' => ∃ T x, v = .ref T ∧ H T = none ∧ H' = upd H T (.tup [.int (i : Nat), x]) ∧ ∀ xs, SqT K H a xs → xs[i]? = some x, fun i H => ∃ xs : List V, SqT K H a xs ∧ xs.length = i⟩
theorem turn_enumT {P : Program} {w : World} {K : PySem.W.Frag} {elts : List Expr} {kk : Nat} {tpos : Pos} (a e it : Addr) :
    Turn P w K (.Tuple elts kk tpos) (Itet K a) [e, it] e (fun i h => (∃ old, IsEnum h e it ((i : Nat) : Int) old) ∧ h.IsTupleIter it a i ∧ e ≠ it) where
  mem := by simp
  obj := fun i h st b hb => by
    obtain ⟨⟨old, he⟩, ⟨o, ho, hc, hd⟩, _⟩ := st
    have e' : b = e ∨ b = it := by simpa using hb
    rcases e' with z | z
    · rw [z]; exact ⟨_, he, fun v q => nomatch q⟩
    · rw [z]; exact ⟨o, ho, fun v q => by rw [hd] at q; cases q⟩
  keep := fun i h h' st k => let ⟨⟨old, he⟩, hi, hne⟩ := st; ⟨⟨old, k e (by simp) _ he⟩, hi.at fun o q => k it (by simp) o q, hne⟩
  item := by
    intro X hP hw hK hc i pins s σ H E I hf st hg
    subst hP hw hK
    obtain ⟨⟨old, he⟩, hit, hne⟩ := st
    obtain ⟨xs, x, hq, hx⟩ := hg
    obtain ⟨its, rv, p, hz⟩ := I.tuple hq
    obtain ⟨u, hu, ru⟩ := rv.get hx
    have hel : e < s.heap.objs.size := Heap.lt_size he
    have hil : it < s.heap.objs.size := by obtain ⟨_, q, _⟩ := hit; exact Heap.lt_size q
    have p : s.heap.IsTuple a its.toArray := p
    have nea : e ≠ a := fun z => by
      obtain ⟨o, e1, _, n, e3⟩ := p
      rw [← z, he] at e1
      cases e1
      cases e3
    have nit : a ≠ it := fun z => by
      obtain ⟨o, e1, _, n, e3⟩ := p
      obtain ⟨o2, e4, _, e5⟩ := hit
      rw [z, e4] at e1
      cases e1
      rw [e3] at e5
      cases e5
    have hd : X.A.in1.handled = none := I.ok.hd hc
    have D := draws_tup (prog := X.prog) (w := X.w) (xs := its.toArray) hd nit
    refine wpAny_pyNext_enum_itemD D he ⟨hit, p⟩ (i := i) (by
      have := (List.getElem?_eq_some_iff.mp hu).1
      simpa using this) hne (by simp [hne, nea]) fun u2 h' tk hu2 ho st' hT hsz hk => ?_
    have eu : u2 = u := by
      have : its[i]? = some u2 := by simpa using hu2
      rw [hu] at this
      exact (Option.some.inj this).symm
    subst eu
    obtain ⟨hit', p'⟩ := st'
    have hit' : h'.IsTupleIter it a (i + 1) := hit'
    refine ⟨_, rfl, wpAny_letOwnedTupleGo_enum (s := { s with heap := h', toks := tk + 1 }) ho fun h'' he' sb => ?_⟩
    have hT2 : h''.get? s.heap.objs.size = some { cls := .type "tuple", data := .seq #[.int i tk, u2] } := (sb.2 _ (Nat.ne_of_gt hel)).trans hT
    have new : ObjOk X.prog X.w (upd H s.heap.objs.size (.tup [.int (i : Nat), x])) h'' s.heap.objs.size (.tup [.int (i : Nat), x]) :=
      ⟨by show 2 ≤ sizeLine; decide, [.int i tk, u2], .cons ⟨_, rfl⟩ (.cons ru .nil), ⟨_, hT2, rfl, _, rfl⟩⟩
    have I1 : Inv X pins σ (upd H s.heap.objs.size (.tup [.int (i : Nat), x])) { s with heap := h'', toks := tk + 1 } :=
      I.turnedNew (ch := [e, it]) (fun b ob hb q => (sb.2 b (fun z => hb (by simp [z]))).trans (hk b ob (fun z => hb (by simp [z])) (fun z => hb (by simp [z])) q)) hf (Nat.le_refl _) new
    refine ⟨.ref s.heap.objs.size, _, I1, rfl, ⟨_, x, rfl, I.hok.fresh (Nat.le_refl _), rfl, fun ys hy => by rw [I.tuple_inj hy hq]; exact hx⟩, ⟨⟨u2, ?_⟩, hit'.at fun o q => (sb.2 it (Ne.symm hne)).trans q, hne⟩, fun b hb => ?_⟩
    · have e1 : ((i + 1 : Nat) : Int) = (i : Int) + 1 := by omega
      rw [e1]; exact he'
    · have hb' : b < s.heap.objs.size := by
        have e' : b = e ∨ b = it := by simpa using hb
        rcases e' with z | z
        · rw [z]; exact hel
        · rw [z]; exact hil
      rw [upd_ne (Nat.ne_of_lt hb')]
      exact (hf b hb).1
  done := by
    intro X hP hw hK hc i pins s σ H E I hf st hg
    subst hP hw hK
    obtain ⟨⟨old, he⟩, hit, hne⟩ := st
    obtain ⟨xs, hq, hx⟩ := hg
    obtain ⟨its, rv, p, hz⟩ := I.tuple hq
    obtain ⟨f0, f1, f2, f3, f4, f5⟩ := hf it (by simp)
    have hl := rv.length
    have p : s.heap.IsTuple a its.toArray := p
    have nit : a ≠ it := fun z => by
      obtain ⟨o, e1, _, n, e3⟩ := p
      obtain ⟨o2, e4, _, e5⟩ := hit
      rw [z, e4] at e1
      cases e1
      rw [e3] at e5
      cases e5
    have hd : X.A.in1.handled = none := I.ok.hd hc
    have D := draws_tup (prog := X.prog) (w := X.w) (xs := its.toArray) hd nit
    have en : i = its.toArray.size := by rw [List.size_toArray]; omega
    exact wpAny_pyNext_enum_endD D he (by rw [← en]; exact ⟨hit, p⟩) fun h' eb => ⟨rfl, I.turned (t' := s.toks) (fun b o hb q => eb b o hb q) f0 f1 f3 f4 f5⟩
  self := fun A i s Q E st h => let ⟨⟨_, he⟩, _⟩ := st; wpAny_pyIter_enum he h
def iEnumT (K : PySem.W.Frag) (ta : TA) : TI := fun σ H R => ta σ H fun vs H1 => ∃ a xs, vs = [.ref a] ∧ SqT K H1 a xs ∧ R (Itet K a) H1
theorem pi_enumT {X : Cx} {e : Expr} {ta : TA} {p pos tpos : Pos} {elts : List Expr} {kk : Nat} (hg : Gl X "enumerate") (hm : X.mg "enumerate" = none) (ha : PA X [e] ta) (hs : starEach [e] X.env = [(false, eval e X.env)]) :
    PI X (.Tuple elts kk tpos) (.Call (.Name "enumerate" p) [e] [] pos) (iEnumT X.K ta) := by
  refine ⟨fun pins s σ H R I h => ?_⟩
  refine Call_ (ld_blt I hg hm boot_enumerate (PyProof.Rows.callWith_type1 (thn (ha.run pos pins s σ H _ I h) fun us s1 ⟨vs, H1, I1, r1, q1⟩ => ?_) hs rfl))
  obtain ⟨a, xs, ex, hq, q⟩ := q1
  subst ex
  cases r1 with
  | cons r rr =>
    cases rr
    cases r
    obtain ⟨its, rv, p', hz⟩ := I1.tuple hq
    refine call_enumerate_tup (show s1.heap.IsTuple a its.toArray from p') fun h' he hit hsz hk => wpAny_pyIter_enum he ?_
    have I2 : Inv X pins σ H1 { s1 with heap := h' } := I1.kept (t' := s1.toks) hk
    refine ⟨s1.heap.objs.size + 1, [s1.heap.objs.size + 1, s1.heap.objs.size], _, _, H1, rfl, I2, turn_enumT a (s1.heap.objs.size + 1) s1.heap.objs.size, ⟨⟨.none, he⟩, hit, Nat.succ_ne_self _⟩, fun b hb => ?_, q⟩
    have e' : b = s1.heap.objs.size + 1 ∨ b = s1.heap.objs.size := by simpa using hb
    have hle : s1.heap.objs.size ≤ b := by
      rcases e' with z | z
      · rw [z]; exact Nat.le_add_right _ _
      · rw [z]; exact Nat.le_refl _
    exact I1.fpOk hle (I1.hok.fresh hle)
end Tz
/-! min(x) of a tuple of ints. -/
namespace Tc
open PySem PySem.Spec PyProof.Rows L2
end Tc
/-! enumerate of a tuple. -/
namespace Py
open PySem PySem.Spec PyProof.Rows L2 Tc Px Tz
variable [Px.Fld]
section
variable {B : Bas} {X : Cx} {Γ : List Sl} {pos : Pos}
theorem its_enumT {K : PySem.W.Frag} {keep : List Sl → Prop} {Hs : Hp} {a : Addr} {ds : List PyData} (p : Pers K keep false Hs a ds) :
    Its keep Hs (Tz.Itet K a) ds.length (fun i => .tuple [.int i, nth ds i]) := by
  refine ⟨fun H => ∃ us, SqX false K H a us ∧ us.length = ds.length, (Tz.Itet K a).yld, ⟨?_, ?_, fun _ _ _ _ _ _ y => y⟩, ?_, ?_⟩
  · rintro i H hi ⟨us, q1, l1⟩
    exact ⟨us, us[i]'(by omega), q1, by simp [show i < us.length by omega]⟩
  · rintro H ⟨us, q1, l1⟩
    exact ⟨us, q1, l1⟩
  · rintro B2 Hs2 σ H Γ k1 s S
    obtain ⟨us, q1, d1⟩ := p B2 Hs2 σ H Γ k1 s S
    exact ⟨us, q1, d1.len⟩
  · rintro B2 i Hs2 σ H Γ x H' hi k1 s S ⟨c, y, rfl, hc, rfl, g1⟩
    obtain ⟨us, q1, d1⟩ := p B2 Hs2 σ H Γ k1 s S
    obtain ⟨d, e1, v1⟩ := dvs_get' d1 (g1 us q1)
    obtain ⟨kk2, T⟩ := S.new (o := .tup [.int (i : Nat), y]) hc
    refine ⟨_, kk2, T, ?_⟩
    show Dv _ _ (.tuple [.int i, nth ds i])
    rw [nth_at e1]
    exact .tup (.inl upd_same) (.cons (.int _) (.cons (v1.mono kk2) .nil))
theorem gi_enumT {x : Str} {p tpos : Pos} {e : Expr} {elts : List Expr} {n1 : Nat} {φ : Nat → (Nat → PyData) → (List Sl → Prop) → List Sl → Prop} (hx : x = "enumerate") (hg : Gl X x) (hm : X.mg x = none)
    (hs : starEach [e] X.env = [(false, eval e X.env)])
    (h : GS B X false e Γ fun ds keep Γ1 => keep Γ1 ∧ φ ds.length (fun i => .tuple [.int i, nth ds i]) keep Γ1) : GI B X (.Tuple elts n1 tpos) (.Call (.Name x p) [e] [] pos) Γ φ := by
  subst hx
  intro Hs σ H R S g
  refine pi_of (Tz.pi_enumT hg hm (pa_cons pe_W pa_nil hs) hs) ?_
  refine show teW X e σ H _ from h Hs σ H _ S fun ds keep Γ1 a Hs1 H1 ⟨k1, p1⟩ s1 S1 pr => ?_
  obtain ⟨us, q1, d1⟩ := pers_q pr S1 k1
  exact ⟨a, us, rfl, q1, g _ _ keep Γ1 _ Hs1 H1 p1 s1 S1 (its_enumT pr)⟩
end
end Py
/-! A def called by its names, in their order. -/
namespace Py
open PySem PySem.Spec PyProof.Rows L2 Tc Px
end Py
/-! A while loop: an invariant with a number that falls. -/
namespace Py
open PySem PySem.Spec PyProof.Rows L2 Tc Px
end Py
/-! math.gcd, imported by name; sorted of ints of any number. -/
namespace Py
open PySem PySem.Spec PyProof.Rows L2 Tc Px
end Py
/-! [elt for x in a for y in b]. -/
namespace Py
open PySem PySem.Spec PyProof.Rows L2 Tc Px
end Py
/-! a list times an int of any size, a negative one too. -/
namespace Py
open PySem PySem.Spec PyProof.Rows L2 Tc Px
end Py
/-! zip of three sequences of any kinds, walked. -/
namespace Tz
open PySem PySem.Spec PyProof.Rows L2
theorem Seq2.on {k : Bool} {h h' : Heap} {a : Addr} {xs : Array Value} (q : Seq2 k h a xs) (s : ∀ o, h.get? a = some o → h'.get? a = some o) : Seq2 k h' a xs := by
  cases k with
  | true => exact Heap.IsList.at q s
  | false => exact Heap.IsTuple.at q s
end Tz
/-! set(xs), xs a list of ints: of any length below the scan's bound. -/
namespace Tc
open PySem PySem.Spec PyProof.Rows L2
end Tc
/-! sets of ints: walked within a call, differences, what they have in common -/
namespace Tc
open PySem PySem.Spec PyProof.Rows L2
/-- a set of ints as it stands -/
structure Ent (w : World) (h : Heap) (a : Addr) (es : Array (Int × Value)) (ep : Nat) (t : SetTable) : Prop where
  at_ : ∃ o, h.get? a = some o ∧ o.ExactSet ∧ o.data = .set es ep t
  good : ∀ e ∈ es.toList, GoodE e
  nod : (es.toList.map keyOf).Nodup
  few : es.size < scanBound
  fit : t.fits es.size = true
  ris : Ris t.place.toList
  led : w.params.followText "set-order" = true ∨ t.led = true
theorem Ent.of {w : World} {h : Heap} {a : Addr} {S : Int → Bool} {n : Nat} (R : SetR w h a S n) : ∃ es ep t, Ent w h a es ep t ∧ (∀ k, S k = true ↔ k ∈ es.toList.map keyOf) ∧ es.size = n := by
  obtain ⟨o, es, ep, t, ho, hex, hd, g, nd, hm, hb, hf, hn, hr, hl⟩ := R
  exact ⟨es, ep, t, ⟨⟨o, ho, hex, hd⟩, g, nd, hb, hf, hr, hl⟩, hm, hn⟩
theorem Ent.mono {w : World} {h h' : Heap} {a : Addr} {es : Array (Int × Value)} {ep : Nat} {t : SetTable} (R : Ent w h a es ep t) (k : ∀ o, h.get? a = some o → h'.get? a = some o) : Ent w h' a es ep t := by
  obtain ⟨⟨o, ho, hex, hd⟩, g, nd, hb, hf, hr, hl⟩ := R
  exact ⟨⟨o, k o ho, hex, hd⟩, g, nd, hb, hf, hr, hl⟩
end Tc
/-! the table of a set that is laid anew: each hash at its own place -/
namespace Tc
open PySem PySem.Spec PyProof.Rows L2
end Tc
/-! a set of ints that stand one behind another, copied; numbers taken out -/
namespace Tc
open PySem PySem.Spec PyProof.Rows L2
end Tc
namespace Tc
open PySem PySem.Spec PyProof.Rows L2
end Tc
/-! numbers taken out of a set of ints; the difference of two sets -/
namespace Tc
open PySem PySem.Spec PyProof.Rows L2
end Tc
/-! differences of sets, what they have in common, as values; sorted of a set of any size -/
namespace Tc
open PySem PySem.Spec PyProof.Rows L2
end Tc
/-! zip of a range and two sequences of any kinds, walked. -/
namespace Tz
open PySem PySem.Spec PyProof.Rows L2
end Tz
/-! zip of a range and two; list(range(..)), tuple(range(.., .., ..)); sorted(set - set), sorted(set & set). -/
namespace Py
open PySem PySem.Spec PyProof.Rows L2 Tc Tz Px
variable [Px.Fld]
def rangeI (lo hi : Int) : List Int := (List.range (hi - lo).toNat).map fun i => lo + (i : Nat)
end Py
/-! set(xs), xs a tuple of ints. -/
namespace Tc
open PySem PySem.Spec PyProof.Rows L2
end Tc
/-! sorted(set(a) & set(b)), lists or tuples of ints. -/
namespace Py
open PySem PySem.Spec PyProof.Rows L2 Tc Tz Px
end Py
/-! isinstance(x, tuple), x an instance or data. -/
namespace Py
open PySem PySem.Spec PyProof.Rows L2 Tc Tz Px
end Py
namespace Py
open PySem PySem.Spec PyProof.Rows L2 Tc Px
variable [Px.Fld]
section
variable {B : Bas} {X : Cx} {Γ : List Sl} {pos : Pos}
/-- a test that is the truth of a list -/
theorem gt_lst {e : Expr} {φ : Bool → List Sl → Prop} (h : GE B X e Γ fun d Γ' => ∃ xs, d = .list xs ∧ φ (!xs.isEmpty) Γ') (he : ∀ whole, isTrue e X.env whole = (do let v ← whole; standAt e.pos; holding [v] (truthy v))) : GT B X e Γ φ := fun Hs σ H Q S g =>
  pt_of (pt_truth pe_W he) (show teW X e σ H _ from h Hs σ H _ S fun d Γ' v Hs' H' ⟨xs, e, p⟩ s T q => by
    subst e
    cases q with
    | @lst p0 vs _ r dv =>
      refine ⟨!vs.isEmpty, .inl ⟨vs, rdL (rd_up T.sub r), rfl⟩, ?_⟩
      have e : vs.isEmpty = xs.isEmpty := by
        have := dv.len
        cases vs <;> cases xs <;> first | rfl | cases this
      rw [e]
      exact g _ Γ' Hs' _ p s T)
end
end Py
namespace Py
open PySem PySem.Spec PyProof.Rows L2 Tc Px
variable [Px.Fld]
section
variable {B : Bas} {X : Cx} {Γ : List Sl} {pos : Pos} {k : Nat} {E : DE} {N : List Str}
/-- a comprehension that changes something -/
theorem gf_lcS {elt t iter : Expr} {ifs : List Expr} {scope : Scope} {φ : List PyData → List Sl → Prop} (calm : X.calm = true) (nd : N.Nodup) (eN : X.N = N) {own : List (Str × Nat)} (eo : ownS N scope = own) (ok : blkC N X.env.scope scope own = true)
    (hs : ∀ x, foldedSetIterable iter X.env x = pure x)
    (h : GI B X t iter Γ fun n f keep Γ1 => ∃ I : Nat → List PyData → List Sl → Prop, I 0 [] (clr Γ1 (own.map (·.2))) ∧ (∀ i acc Γ, i ≤ n → I i acc Γ → keep Γ) ∧
      (∀ i acc Γ, i < n → I i acc Γ → ∀ B', Blk X scope fun Y => GC B' Y (own.map (·.2)) t (f i) (clr Γ (own.map (·.2))) fun Γ2 => Blk X scope fun Y => GP B' Y ifs Γ2 fun b Γ3 => if b = true then Blk X scope fun Y => GE B' Y elt Γ3 fun d Γ4 => acc.length < sizeLine ∧ I (i + 1) (acc ++ [d]) (clr Γ4 (own.map (·.2))) else I (i + 1) acc (clr Γ3 (own.map (·.2)))) ∧
      ∀ acc Γ, I n acc Γ → φ acc Γ) : GF B X (.ListComp elt [⟨t, iter, ifs, 0⟩] scope pos) Γ φ := gf_lc calm (eN ▸ nd) (blkOk_by (eN.symm ▸ ok)) h hs
end
end Py
/-! A def of one thing called by its name. -/
namespace Py
open PySem PySem.Spec PyProof.Rows L2 Tc Px
end Py
/-! zip of three. -/
namespace Py
open PySem PySem.Spec PyProof.Rows L2 Tc Tz Px
end Py
/-! x, y = a, b where one of the names is also used in a comprehension; x a list of its own. -/
namespace Py
open PySem PySem.Spec PyProof.Rows L2 Tc Tz Px
variable [Px.Fld]
section
variable {B : Bas} {X : Cx} {Γ : List Sl} {pos : Pos} {k : Nat} {E : DE} {N : List Str}
theorem par_onC {i j : Nat} {x y : Str} {a b : Expr} {px py pt : Pos} {kt k2 : Nat} {pt2 : Pos} (c : Bod X k) (nd : N.Nodup) (eN : X.N = N) (hi : idxS X.N x = some i) (hj : idxS X.N y = some j)
    (lx : LocB X.env.scope x = true) (ly : LocB X.env.scope y = true) (fx : X.fn x = true ∨ X.env.scope.names.lookup x = some .local) (fy : X.fn y = true ∨ X.env.scope.names.lookup y = some .local)
    (hs : swapsWithSole [.Tuple [.Name x px, .Name y py] kt pt] (.Tuple [a, b] k2 pt2) pos.line X.env = pure false) (hw : swappedStores [.Tuple [.Name x px, .Name y py] kt pt] (.Tuple [a, b] k2 pt2) X.env = pure none)
    (hm : (assignEach [.Tuple [.Name x px, .Name y py] kt pt] X.env).map (·.2) = [assign (.Tuple [.Name x px, .Name y py] kt pt) X.env])
    (hn : (assignEach [.Name x px, .Name y py] X.env).length = 2) (hst : (assignEach [.Name x px, .Name y py] X.env).findIdx? (·.1) = none)
    (g1 : (assignEach (.Name x px :: [.Name y py]) X.env).map (·.2) = assign (.Name x px) X.env :: (assignEach [.Name y py] X.env).map (·.2)) (g2 : (assignEach (.Name y py :: []) X.env).map (·.2) = assign (.Name y py) X.env :: (assignEach [] X.env).map (·.2))
    (h1 : starEach [a, b] X.env = (false, eval a X.env) :: starEach [b] X.env) (h2 : starEach [b] X.env = (false, eval b X.env) :: starEach [] X.env)
    (h : GF B X a Γ fun ds Γ1 => ∀ B' : Bas, GE B' X b Γ1 fun d Γ2 => Nat.ble (i + 1) Γ2.length = true ∧ Nat.ble (j + 1) Γ2.length = true ∧ ∀ ad, Alone Γ2 ad → E.nx ((Γ2.set i (.own ad ds)).set j (.d d))) : G1 B X (.Assign [.Tuple [.Name x px, .Name y py] kt pt] (.Tuple [a, b] k2 pt2) pos) Γ E := fun D Hs σ H R S =>
  ps_of (ps_asg (pe_tup (pa_cons pe_W (pa_cons pe_W pa_nil h2) h1)) (pg_tup c.calm (pgs_cons (pg_name (i := i) (eN ▸ nd) (idxS_ok hi) (locB_ok lx) fx) (pgs_cons (pg_name (i := j) (eN ▸ nd) (idxS_ok hj) (locB_ok ly) fy) pgs_nil g2) g1) hn hst) hs hw hm) (show teW X a σ H _ from h Hs σ H _ S fun ds Γ1 l vs Hs1 H1 p s1 S1 f n al ha dv => show teW X b σ H1 _ from p ⟨L2.upd B.fr l (.lst vs), Hs1, B.T⟩ Hs1 σ H1 _ (S1.hold ha n f al) fun d Γ2 v Hs2 H2 ⟨l1, l2, p2⟩ s2 S2 q2 => by
    obtain ⟨S2, ha2, n2, al2⟩ := S2.loose S1.gr f n
    refine ⟨by show 2 ≤ sizeLine; decide, fun q hq => ⟨q, [.ref l, v], rfl, .inl (.inl upd_same), rfl, _, _, rfl, _, _, rfl, rfl, ?_⟩⟩
    have ne : l ≠ q := fun z => by rw [z, hq] at ha2; cases ha2
    exact R.nx _ Hs2 _ _ (p2 l al2) (s1.trans s2) (((S2.aside hq).putL (Nat.le_of_ble_eq_true l1) f n2 ((upd_ne ne).trans ha2) (dv.mono s2) al2).putD (by rw [List.length_set]; exact Nat.le_of_ble_eq_true l2) q2))
end
end Py
/-! a written tuple indexed; its greatest; x -= e; reversed(list); tuple * 0, 1. -/
namespace L2
open PySem PySem.Spec PyProof.Rows
end L2
namespace L2
open PySem PySem.Spec PyProof.Rows
end L2
namespace Py
open PySem PySem.Spec PyProof.Rows L2 Tc Tz Px
end Py
/-! == and != of an instance by the class's own __eq__, whatever stands on the right. -/
namespace Tc
open PySem PySem.Spec PySem.W PyProof.Rows
open Builtin
end Tc
namespace Tc
open PySem PySem.Spec PyProof.Rows L2
end Tc
/-! x in a list of data that are plain all through. -/
namespace Py
open PySem PySem.Spec PyProof.Rows L2 Tc Tz Px
end Py
/-! a tuple, so many times, also 0 or 1. -/
namespace Py
open PySem PySem.Spec PyProof.Rows L2 Tc Tz Px
end Py
/-! A list of lambdas of any length, of any names; a comprehension that calls a def with each of them. -/
namespace Py
open PySem PySem.Spec PyProof.Rows L2 Tc Px
variable [Px.Fld]
open LamX (LamS lamCx lamEnv TabB Tabs CodeO)
/-! ### the cells of some names -/
structure CellsN (X : Cx) (L : Pins) (σ : L2.St) (ns : List (Str × Nat)) : Prop where
  ok : X.Ok
  at_ : ∀ p ∈ ns, ∀ v, σ[p.2]? = some (some v) → ∃ c o u, X.env.cells.lookup p.1 = some c ∧ L.lookup c = some o ∧ o.data = .cell (some u) ∧ RelV v u
  cell : ∀ b o, L.lookup b = some o → ∃ x, X.env.cells.lookup x = some b
def CellNm (X : Cx) (p : Str × Nat) : Prop := X.fn p.1 = true ∧ X.env.kindOf p.1 = some .cell ∧ Vis X.env.scope p.1 ∧ X.N[p.2]? = some p.1
theorem lookup_two {b c : Addr} {o q : Obj} {L : Pins} (h : List.lookup b ((c, q) :: L) = some o) : (b = c ∧ o = q) ∨ (b ≠ c ∧ L.lookup b = some o) := by
  by_cases e : b = c
  · subst e
    rw [List.lookup_cons_self] at h
    exact .inl ⟨rfl, (Option.some.inj h).symm⟩
  · rw [List.lookup_cons, beq_eq_false_iff_ne.mpr e] at h
    exact .inr ⟨e, h⟩
theorem cellsN {X : Cx} {pins : Pins} {σ : L2.St} {H : Hp} {s : Shared} (I : Inv X pins σ H s) (ns : List (Str × Nat)) (hn : ∀ p ∈ ns, CellNm X p) (hv : ∀ p ∈ ns, ∃ v, σ[p.2]? = some (some v)) :
    ∃ L : Pins, Free L H s.heap (frs X.stack) ∧ (∀ b o, L.lookup b = some o → X.base.get? b = none) ∧ CellsN X L σ ns := by
  induction ns with
  | nil =>
    refine ⟨[], ⟨fun b o h => ?_, fun b o h => ?_, fun b o h => ?_⟩, fun b o h => ?_, I.ok, fun p hp => (nomatch hp), fun b o h => ?_⟩
    all_goals cases h
  | cons p ns ih =>
    obtain ⟨L, fr, nb, C⟩ := ih (fun q hq => hn q (.tail _ hq)) fun q hq => hv q (.tail _ hq)
    obtain ⟨f1, k1, v1, x1⟩ := hn p (.head _)
    obtain ⟨v, sv⟩ := hv p (.head _)
    obtain ⟨c, o, u, C1⟩ := cell_at I f1 k1 v1 x1 sv
    refine ⟨(c, o) :: L, ⟨fun b q h => ?_, fun b q h => ?_, fun b q h => ?_⟩, fun b q h => ?_, I.ok, fun q hq w hw => ?_, fun b q h => ?_⟩
    · rcases lookup_two h with ⟨rfl, rfl⟩ | ⟨_, h⟩
      · exact C1.at_
      · exact fr.at_ b q h
    · rcases lookup_two h with ⟨rfl, rfl⟩ | ⟨_, h⟩
      · exact C1.no
      · exact fr.no b q h
    · rcases lookup_two h with ⟨rfl, rfl⟩ | ⟨_, h⟩
      · exact C1.nf
      · exact fr.fr b q h
    · rcases lookup_two h with ⟨rfl, rfl⟩ | ⟨_, h⟩
      · exact C1.nb
      · exact nb b q h
    · cases hq with
      | head =>
        rw [sv] at hw
        cases hw
        exact ⟨c, o, u, C1.lk, List.lookup_cons_self, C1.dat, C1.rel⟩
      | tail _ hq =>
        obtain ⟨c2, o2, u2, e1, e2, e3, e4⟩ := C.at_ q hq w hw
        by_cases e : c2 = c
        · subst e
          have z := fr.at_ c2 o2 e2
          rw [C1.at_] at z
          cases z
          exact ⟨c2, o, u2, e1, List.lookup_cons_self, e3, e4⟩
        · refine ⟨c2, o2, u2, e1, ?_, e3, e4⟩
          rw [List.lookup_cons, beq_eq_false_iff_ne.mpr e]
          exact e2
    · rcases lookup_two h with ⟨rfl, rfl⟩ | ⟨_, h⟩
      · exact ⟨_, C1.lk⟩
      · exact C.cell b q h
/-! ### what a lambda sees -/
/-- slots of which some are left out -/
def MaskOk : List Sl → List Sl → Prop
  | [], [] => True
  | a :: r, b :: t => (a = .no ∨ (a = b ∧ ∃ x, a = .d x)) ∧ MaskOk r t
  | _, _ => False
theorem MaskOk.len : ∀ {Γ Δ : List Sl}, MaskOk Γ Δ → Γ.length = Δ.length
  | [], [], _ => rfl
  | a :: r, b :: t, h => by rw [List.length_cons, List.length_cons, MaskOk.len h.2]
  | [], _ :: _, h => h.elim
  | _ :: _, [], h => h.elim
theorem MaskOk.at_ : ∀ {Γ Δ : List Sl}, MaskOk Γ Δ → ∀ (i : Nat) (s : Sl), Γ[i]? = some s → s = .no ∨ (Δ[i]? = some s ∧ ∃ x, s = .d x)
  | [], [], _, i, s, e => by cases e
  | a :: r, b :: t, h, 0, s, e => by
      cases e
      rcases h.1 with z | ⟨z, y⟩
      · exact .inl z
      · exact .inr ⟨congrArg some z.symm, y⟩
  | a :: r, b :: t, h, i + 1, s, e => MaskOk.at_ (Γ := r) (Δ := t) h.2 i s e
  | [], _ :: _, h, _, _, _ => h.elim
  | _ :: _, [], h, _, _, _ => h.elim
def freeIn (sc : Scope) (ns : List (Str × Nat)) : Bool := sc.names.all fun q => match q.2 with
  | .free => ns.any fun p => decide (p.1 = q.1)
  | _ => true
theorem freeIn_ok {sc : Scope} {ns : List (Str × Nat)} (h : freeIn sc ns = true) {y : Str} (hy : (y, NameKind.free) ∈ sc.names) : ∃ i, (y, i) ∈ ns := by
  have z := List.all_eq_true.mp h _ hy
  obtain ⟨p, hp, e⟩ := List.any_eq_true.mp z
  have e : p.1 = y := of_decide_eq_true e
  exact ⟨p.2, by rw [← e]; exact hp⟩
/-! ### the list is made -/
abbrev LamSpec := Arguments × Expr × Scope
def LamsAt (X : Cx) (H : Hp) : List V → List LamSpec → Prop
  | [], [] => True
  | v :: vs, l :: ls => (∃ (f c : Addr) (pm ct : Value), v = .ref f ∧ H f = some (ObO f (lamO X l.1 l.2.1 l.2.2 pm c ct)) ∧ H c = some (CodeO c (lamQ X))) ∧ LamsAt X H vs ls
  | _, _ => False
theorem LamsAt.len {X : Cx} {H : Hp} : ∀ {vs : List V} {ls : List LamSpec}, LamsAt X H vs ls → vs.length = ls.length
  | [], [], _ => rfl
  | _ :: vs, _ :: ls, h => by rw [List.length_cons, List.length_cons, LamsAt.len h.2]
  | [], _ :: _, h => h.elim
  | _ :: _, [], h => h.elim
theorem LamsAt.keep {X : Cx} {H H2 : Hp} (k : ∀ b o, H b = some o → (∀ xs, o ≠ .lst xs) → (∀ ps, o ≠ .tbl ps) → H2 b = some o) : ∀ {vs : List V} {ls : List LamSpec}, LamsAt X H vs ls → LamsAt X H2 vs ls
  | [], [], _ => trivial
  | _ :: vs, _ :: ls, h => by
      obtain ⟨⟨f, c, pm, ct, rfl, e1, e2⟩, h⟩ := h
      exact ⟨⟨f, c, pm, ct, rfl, k _ _ e1 (fun _ z => by unfold ObO at z; cases z) (fun _ z => by unfold ObO at z; cases z), k _ _ e2 (fun _ z => by unfold CodeO at z; cases z) (fun _ z => by unfold CodeO at z; cases z)⟩, LamsAt.keep k h⟩
  | [], _ :: _, h => h.elim
  | _ :: _, [], h => h.elim
theorem LamsAt.snoc {X : Cx} {H : Hp} {v : V} {l : LamSpec} (hv : ∃ (f c : Addr) (pm ct : Value), v = .ref f ∧ H f = some (ObO f (lamO X l.1 l.2.1 l.2.2 pm c ct)) ∧ H c = some (CodeO c (lamQ X))) : ∀ {vs : List V} {ls : List LamSpec}, LamsAt X H vs ls → LamsAt X H (vs ++ [v]) (ls ++ [l])
  | [], [], _ => ⟨hv, trivial⟩
  | _ :: vs, _ :: ls, h => ⟨h.1, LamsAt.snoc hv h.2⟩
  | [], _ :: _, h => h.elim
  | _ :: _, [], h => h.elim
/-- where their objects lie -/
theorem LamsAt.lie {X : Cx} {H : Hp} : ∀ {vs : List V} {ls : List LamSpec}, LamsAt X H vs ls → ∃ A : List Addr, (∀ b ∈ A, ∃ o, H b = some o ∧ (∀ xs, o ≠ .lst xs) ∧ ∀ ps, o ≠ .tbl ps) ∧ ∀ H2 : Hp, (∀ b ∈ A, H2 b = H b) → LamsAt X H2 vs ls
  | [], [], _ => ⟨[], fun _ z => (nomatch z), fun _ _ => trivial⟩
  | _ :: vs, _ :: ls, h => by
      obtain ⟨⟨f, c, pm, ct, rfl, e1, e2⟩, h⟩ := h
      obtain ⟨A, a1, a2⟩ := LamsAt.lie h
      refine ⟨f :: c :: A, fun b hb => ?_, fun H2 k => ⟨⟨f, c, pm, ct, rfl, (k f (.head _)).trans e1, (k c (.tail _ (.head _))).trans e2⟩, a2 H2 fun b hb => k b (.tail _ (.tail _ hb))⟩⟩
      cases hb with
      | head => exact ⟨_, e1, (fun _ z => by unfold ObO at z; cases z), (fun _ z => by unfold ObO at z; cases z)⟩
      | tail _ hb =>
        cases hb with
        | head => exact ⟨_, e2, (fun _ z => by unfold CodeO at z; cases z), (fun _ z => by unfold CodeO at z; cases z)⟩
        | tail _ hb => exact a1 b hb
  | [], _ :: _, h => h.elim
  | _ :: _, [], h => h.elim
/-- one slots' heap for another in which the tables have grown -/
theorem sx_tab {B : Bas} {Hs : Hp} {σ : L2.St} {H H2 : Hp} {Γ : List Sl} {P : Addr} {q : Str} (S : Sx B Hs σ H Γ) (hm : (P, q) ∈ B.T) (hB : ∀ p ∈ B.T, B.fr p.1 = none) (k : ∀ b o, H b = some o → b ≠ P → H2 b = some o) (t : Tabs B.T H2) : Sx B Hs σ H2 Γ := by
  have tb := S.tb
  obtain ⟨ps, hP, _⟩ := tb.1 _ hm
  have hP : H P = some (.tbl ps) := hP
  refine ⟨fun b o e => k b o (S.fr b o e) fun z => ?_, S.gr, fun b o e => k b o (S.sub b o e) fun z => ?_, S.len, fun i s hi => ?_, S.ap, t, tb.2⟩
  · have := hB _ hm
    rw [z] at e
    rw [show B.fr P = none from this] at e
    cases e
  · have := tb.2 _ hm
    rw [z] at e
    rw [show Hs P = none from this] at e
    cases e
  · have q := S.sl i s hi
    cases s with
    | own a ds =>
      obtain ⟨q1, q2, q3, vs, q4, q5⟩ := q
      exact ⟨q1, q2, q3, vs, k a _ q4 (fun z => by rw [z, hP] at q4; cases q4), q5⟩
    | _ => exact q
/-! ### x = [h(y) for y in z], z a list of lambdas -/
end Py
/-! A dict by texts that a def makes for itself, changes and reads. -/
namespace Py
open PySem PySem.Spec PyProof.Rows L2 Tc Px
variable [Px.Fld]
def DK (Hs : Hp) : List (Key × V) → List (Str × PyData) → Prop
  | [], [] => True
  | p :: r, q :: t => p.1 = Sum.inr q.1 ∧ Dv Hs p.2 q.2 ∧ DK Hs r t
  | _, _ => False
def getS (ks : List (Str × PyData)) (z : Str) : Option PyData := match ks with
  | [] => none
  | q :: t => if decide (q.1 = z) = true then some q.2 else getS t z
theorem DK.mono {Hs Hs2 : Hp} (s : Same Hs Hs2) : ∀ {kvs : List (Key × V)} {ks : List (Str × PyData)}, DK Hs kvs ks → DK Hs2 kvs ks
  | [], [], _ => trivial
  | p :: r, q :: t, h => ⟨h.1, h.2.1.mono s, DK.mono s h.2.2⟩
  | [], _ :: _, h => h.elim
  | _ :: _, [], h => h.elim
theorem DK.len {Hs : Hp} : ∀ {kvs : List (Key × V)} {ks : List (Str × PyData)}, DK Hs kvs ks → kvs.length = ks.length
  | [], [], _ => rfl
  | p :: r, q :: t, h => by rw [List.length_cons, List.length_cons, DK.len h.2.2]
  | [], _ :: _, h => h.elim
  | _ :: _, [], h => h.elim
theorem DK.snoc {Hs : Hp} {p : Key × V} {q : Str × PyData} (e : p.1 = Sum.inr q.1) (d : Dv Hs p.2 q.2) : ∀ {kvs : List (Key × V)} {ks : List (Str × PyData)}, DK Hs kvs ks → DK Hs (kvs ++ [p]) (ks ++ [q])
  | [], [], _ => ⟨e, d, trivial⟩
  | _ :: _, _ :: _, h => ⟨h.1, h.2.1, DK.snoc e d h.2.2⟩
  | [], _ :: _, h => h.elim
  | _ :: _, [], h => h.elim
theorem DK.get {Hs : Hp} {z : Str} : ∀ {kvs : List (Key × V)} {ks : List (Str × PyData)}, DK Hs kvs ks → (getS ks z = none → valV kvs (Sum.inr z : Key) = none) ∧ ∀ d, getS ks z = some d → ∃ v, valV kvs (Sum.inr z : Key) = some v ∧ Dv Hs v d
  | [], [], _ => ⟨fun _ => rfl, fun d h => (nomatch h)⟩
  | p :: r, q :: t, h => by
      obtain ⟨h1, h2, h3⟩ := h
      obtain ⟨g1, g2⟩ := DK.get (z := z) h3
      unfold getS
      by_cases e : q.1 = z
      · rw [if_pos (decide_eq_true e)]
        refine ⟨fun h => (nomatch h), fun d hd => ?_⟩
        cases hd
        exact ⟨p.2, valV_pos (by rw [h1, e]), h2⟩
      · rw [if_neg (by rw [decide_eq_false e]; decide), valV_neg (by rw [h1]; exact fun x => e (Sum.inr.inj x))]
        exact ⟨g1, g2⟩
  | [], _ :: _, h => h.elim
  | _ :: _, [], h => h.elim
end Py
/-! where the first True of a list stands -/
namespace Py
open PySem PySem.Spec PyProof.Rows L2 Tc Px
end Py
/-! x == []; a slot whose value is known as data. -/
namespace Py
open PySem PySem.Spec PyProof.Rows L2 Tc Tz Px
variable [Px.Fld]
section
variable {B : Bas} {X : Cx} {Γ : List Sl} {pos : Pos} {a : Expr}
theorem Sx_vd {Hs H : Hp} {σ : L2.St} {i : Nat} {v : V} {d : PyData} (S : Sx B Hs σ H Γ) (hΓ : Γ[i]? = some (.v v)) (dv : Dv Hs v d) : Sx B Hs σ H (Γ.set i (.d d)) := by
  have back : ∀ (j : Nat) (a : Addr) (ds : List PyData), (Γ.set i (.d d))[j]? = some (.own a ds) → Γ[j]? = some (.own a ds) := fun j a ds h => by
    by_cases z : i = j
    · subst z
      obtain ⟨hi, _⟩ := List.getElem?_eq_some_iff.mp hΓ
      rw [List.getElem?_set_self hi] at h
      cases h
    · rw [List.getElem?_set_ne z] at h
      exact h
  refine ⟨S.fr, S.gr, S.sub, by rw [List.length_set]; exact S.len, fun j s hs => ?_, fun j k a ds b es h1 h2 n => S.ap j k a ds b es (back j a ds h1) (back k b es h2) n, S.tb⟩
  by_cases z : i = j
  · subst z
    obtain ⟨hi, _⟩ := List.getElem?_eq_some_iff.mp hΓ
    rw [List.getElem?_set_self hi] at hs
    cases hs
    exact ⟨v, S.val hΓ, dv⟩
  · rw [List.getElem?_set_ne z] at hs
    exact S.sl j s hs
theorem gs_vd {E : DE} {sts : List Stmt} {v : V} {d : PyData} (i : Nat) (hΓ : Γ[i]? = some (.v v)) (dv : Dv B.hs v d) (h : Gs B X sts (Γ.set i (.d d)) E) : Gs B X sts Γ E := fun D Hs σ H R S => h D Hs σ H R (Sx_vd S hΓ (dv.mono S.gr.same))
end
end Py
/-! t[::-1], t a tuple. -/
namespace Tc
open PySem PySem.Spec PyProof.Rows L2
end Tc
/-! t[::-1] of a tuple. -/
namespace Py
open PySem PySem.Spec PyProof.Rows L2 Tc Tz Px
end Py
/-! sorted of tuples of ints, any number of them. -/
namespace Tc
open PySem PySem.Spec PyProof.Rows
section
variable {prog : Program} {w : World} {A : Around} {E : Value → Shared → Prop} {s : Shared}
def ltR (r : Value → Int) (v u : Value) : Bool := decide (r v < r u)
theorem swoR (r : Value → Int) : SrtO.Swo (ltR r) := by
  refine ⟨fun x y h => ?_, fun x y z h1 h2 => ?_⟩
  · have a := of_decide_eq_true (p := r x < r y) h
    exact decide_eq_false (p := r y < r x) (by omega)
  · have a := of_decide_eq_false (p := r y < r x) h1
    have b := of_decide_eq_false (p := r z < r y) h2
    exact decide_eq_false (p := r z < r x) (by omega)
theorem tups_sortable {a : Addr} {vs : List Value} {d : Nat} {B : Int} (hd : 1 ≤ d) (h2 : 2 ≤ vs.length) (x : TS.TupsOk s.heap d B vs) (r : Value → Int) (hr : ∀ v, v ∈ vs → ∀ ns, TS.TupInts s.heap v ns → r v = TS.code B ns)
    (ha : ∀ o, s.heap.get? a = some o → o.cls ≠ .type "tuple") : SrtO.SortableO prog w A s a vs (ltR r) := by
  intro h' keep
  have kp : ∀ b o, s.heap.get? b = some o → o.cls = .type "tuple" → h'.get? b = some o := fun b o e c => keep b o (fun z => by subst z; exact ha o e c) e
  have x' : TS.TupsOk h' d B vs := x.keeps kp
  have hr' : ∀ v, v ∈ vs → ∀ ns, TS.TupInts h' v ns → r v = TS.code B ns := fun v hv ns t => by
    obtain ⟨ns0, t0, _⟩ := x v hv
    have e : ns = ns0 := t.ints.symm.trans (t0.keeps kp).ints
    rw [e]
    exact hr v hv ns0 t0
  obtain ⟨fs, k, hl, hi⟩ := TS.firsts_of hd vs x'
  refine ⟨PyProof.Rows.tuples' true, fun Q E hq => ?_, ?_⟩
  · refine PySem.W.kat_kind (s := { s with heap := h' }) (T := Value.type "int") k (by omega) (fun f hf => ?_) rfl hq
    obtain ⟨n, t, rfl⟩ := hi f hf
    exact PySem.W.Looks.of_pure rfl
  · intro p q hp hq
    show wpAny (model prog w) A (PyProof.Rows.keyLt' (PyProof.Rows.tuples' true) p.1 q.1) (fun r' s' => s' = { s with heap := h' } ∧ r' = ltR r p.1 q.1) (fun _ _ => False) { s with heap := h' }
    obtain ⟨ns, tp, lp, bp⟩ := x' _ hp
    obtain ⟨ms, tq, lq, bq⟩ := x' _ hq
    have ep := hr' _ hp _ tp
    have eq2 := hr' _ hq _ tq
    have e3 : ltR r p.1 q.1 = decide (TS.code B ns < TS.code B ms) := by unfold ltR; rw [ep, eq2]
    rw [e3]
    obtain ⟨a, xs, e1, ⟨o, ho, hc, n, hdt⟩, i⟩ := tp
    obtain ⟨a', ys, e2, ⟨o', ho', hc', n', hdt'⟩, i'⟩ := tq
    rw [e1, e2]
    refine PySem.W.kat_lt (s := { s with heap := h' }) ho hdt ho' hdt' ?_
    have sz : decide (xs.size < ys.size) = false := by
      have l1 := i.length
      have l2 := i'.length
      rw [Array.length_toList] at l1 l2
      exact decide_eq_false (by omega)
    rw [sz]
    exact TS.lex_ints 0 i i' (by omega) bp bq ⟨rfl, rfl⟩
end
end Tc
namespace Tc
open PySem PySem.Spec PyProof.Rows L2
section
variable {X : Cx}
/-- sorted(xs), xs a list of tuples of d ints in [0, B), any number: a new list of the same, ascending by code B -/
def rSortTO (K : PySem.W.Frag) (d : Nat) (B : Int) : List V → Hp → VK → Prop := fun vs H Q => ∃ (a : Addr) (xs : List V), vs = [V.ref a] ∧ SqL K H a xs ∧ (∀ x ∈ xs, ∃ ns, TupI K H x ns ∧ ns.length = d ∧ TS.Bd B ns) ∧
  ∀ (ys : List V) (p : Addr), ys.Perm xs → ys.Pairwise (fun x y => ∀ n m, TupI K H x n → TupI K H y m → TS.code B n ≤ TS.code B m) → H p = none → Q (.ref p) (upd H p (.lst ys))
theorem cr_sortTO {d : Nat} {B : Int} (hd : 1 ≤ d) : CallR X (.builtin "sorted") (rSortTO X.K d B) := by
  intro pins s σ H vs us Q I r h
  obtain ⟨a, xs, rfl, hs, hx, q⟩ := h
  obtain ⟨its, rv, hl, hz⟩ := I.list hs
  rw [Vals.ref1 r]
  obtain ⟨e1, e2⟩ := bkV_refs rv fun x m => by
    obtain ⟨ns, ⟨t, e, _⟩, _⟩ := hx x m
    exact ⟨t, e⟩
  have tok : TS.TupsOk s.heap d B its := fun v hv => by
    obtain ⟨t, rfl⟩ := e2 v hv
    have hm : V.ref t ∈ xs := by
      rw [e1]
      exact List.mem_map.mpr ⟨_, hv, rfl⟩
    obtain ⟨ns, ⟨t', e, ht⟩, hn, hb⟩ := hx _ hm
    cases e
    exact ⟨ns, tupI_raw I ht, hn, hb⟩
  refine SrtO.sorted_ord (swoR fun v => TS.code B (TS.intsOf s.heap v)) hl.isList (by rw [← rv.length]; exact hz) (fun h2 h₁ a' ha kk => ?_) fun out h1 h2 => ?_
  · refine tups_sortable (s := { s with heap := h₁ }) hd h2 (tok.keeps fun b o e _ => (kk b o e).2) _ (fun v hv ns t => ?_) fun o e => ?_
    · obtain ⟨ns0, t0, _⟩ := tok v hv
      have e : ns = ns0 := t.ints.symm.trans (t0.keeps fun b o e _ => (kk b o e).2).ints
      show TS.code B (TS.intsOf s.heap v) = _
      rw [t0.ints, e]
    · have e' : some o = some (seqObj "list" its.toArray 0) := e.symm.trans ha
      cases e'
      intro c
      exact absurd (Value.type.inj c) (by decide)
  · obtain ⟨ep, he'⟩ := PyProof.Rows.sortedAll_at s.heap its out.toArray
    have h3 : ∀ u ∈ out, ∃ a, u = Value.ref a := fun u hu => e2 u (h2.perm.mem_iff.mp hu)
    have hp : (out.map bkV).Perm xs := by
      rw [e1]
      exact h2.perm.map bkV
    have hlen : (out.map bkV).length ≤ sizeLine := by
      rw [hp.length_eq]
      exact hz
    refine ⟨.ref _, upd H (s.heap.objs.size + 1) (.lst (out.map bkV)), I.laid (t' := s.toks) (fun _ _ => PyProof.Rows.sortedAll_old) (Nat.le_succ _) ⟨hlen, out, ep, bkV_vals h3, he'⟩, rfl, q _ _ hp ?_ (I.hok.fresh (Nat.le_succ _))⟩
    rw [List.pairwise_map]
    refine List.Pairwise.imp (fun {u v} huv n m hn hm => ?_) h1
    have huv := of_decide_eq_false (p := TS.code B (TS.intsOf s.heap v) < TS.code B (TS.intsOf s.heap u)) huv
    obtain ⟨t, et, ht⟩ := hn
    obtain ⟨t', et', ht'⟩ := hm
    have eu := bkV_ref et
    have ev := bkV_ref et'
    have i1 : TS.intsOf s.heap u = n := by
      rw [eu]
      exact (tupI_raw I ht).ints
    have i2 : TS.intsOf s.heap v = m := by
      rw [ev]
      exact (tupI_raw I ht').ints
    rw [← i1, ← i2]
    omega
end
end Tc
/-! sorted of a list of tuples of ints. -/
namespace Py
open PySem PySem.Spec PyProof.Rows L2 Tc Px
variable [Px.Fld]
/-- a tuple of ints -/
def tupD (l : List Int) : PyData := .tuple (l.map .int)
theorem dvs_permI {H : Hp} {vs ws : List V} (p : vs.Perm ws) : ∀ {ns : List (List Int)}, DvAll H ws (ns.map tupD) → ∃ ms : List (List Int), ms.Perm ns ∧ DvAll H vs (ms.map tupD) := by
  have q := p.symm
  clear p
  induction q with
  | nil =>
    intro ns h
    match ns, h with
    | [], h => exact ⟨[], .nil, h⟩
  | cons x q ih =>
    intro ns h
    match ns, h with
    | n :: ns, .cons a r =>
      obtain ⟨ms, h1, h2⟩ := ih r
      exact ⟨n :: ms, h1.cons n, .cons a h2⟩
  | swap x y l =>
    intro ns h
    match ns, h with
    | n :: m :: ns, .cons a (.cons b r) => exact ⟨m :: n :: ns, .swap n m ns, .cons b (.cons a r)⟩
  | trans q1 q2 ih1 ih2 =>
    intro ns h
    obtain ⟨ms, h1, h2⟩ := ih1 h
    obtain ⟨ls, h3, h4⟩ := ih2 h2
    exact ⟨ls, h3.trans h1, h4⟩
theorem dvs_memT {H : Hp} : ∀ {vs : List V} {ns : List (List Int)}, DvAll H vs (ns.map tupD) → (∀ n ∈ ns, ∃ v ∈ vs, Dv H v (tupD n)) ∧ ∀ v ∈ vs, ∃ n ∈ ns, Dv H v (tupD n)
  | [], [], _ => ⟨fun _ h => (nomatch h), fun _ h => (nomatch h)⟩
  | v :: vs, n :: ns, .cons a r => by
    obtain ⟨h1, h2⟩ := dvs_memT r
    refine ⟨fun m hm => ?_, fun u hu => ?_⟩
    · rcases List.mem_cons.mp hm with rfl | hm
      · exact ⟨v, List.mem_cons_self, a⟩
      · obtain ⟨u, hu, d⟩ := h1 m hm
        exact ⟨u, List.mem_cons_of_mem _ hu, d⟩
    · rcases List.mem_cons.mp hu with rfl | hu
      · exact ⟨n, List.mem_cons_self, a⟩
      · obtain ⟨m, hm, d⟩ := h2 u hu
        exact ⟨m, List.mem_cons_of_mem _ hm, d⟩
theorem tupI_of {K : PySem.W.Frag} {H : Hp} {v : V} {n : List Int} (d : Dv H v (tupD n)) : TupI K H v n := by
  unfold tupD at d
  cases d with
  | tup r a =>
    rw [dvs_ints a] at r
    exact ⟨_, rfl, rdT r⟩
theorem dvs_pairT {K : PySem.W.Frag} {H : Hp} {B : Int} : ∀ {vs : List V} {ns : List (List Int)}, DvAll H vs (ns.map tupD) → vs.Pairwise (fun x y => ∀ n m, TupI K H x n → TupI K H y m → TS.code B n ≤ TS.code B m) → ns.Pairwise fun n m => TS.code B n ≤ TS.code B m
  | [], [], _, _ => .nil
  | v :: vs, n :: ns, .cons a r, h => by
    obtain ⟨h1, h2⟩ := List.pairwise_cons.mp h
    refine List.pairwise_cons.mpr ⟨fun m hm => ?_, dvs_pairT r h2⟩
    obtain ⟨u, hu, d⟩ := (dvs_memT r).1 m hm
    exact h1 u hu n m (tupI_of a) (tupI_of d)
def rSortAny (K : PySem.W.Frag) : List V → Hp → VK → Prop := fun vs H Q => ∃ (n : Nat) (C : Int), 1 ≤ n ∧ rSortTO K n C vs H Q
theorem cr_sortAny {X : Cx} : L2.CallR X (.builtin "sorted") (rSortAny X.K) := by
  intro pins s σ H vs us Q I r h
  obtain ⟨n, C, hn, h⟩ := h
  exact cr_sortTO hn pins s σ H vs us Q I r h
section
variable {B : Bas} {X : Cx} {Γ : List Sl} {pos : Pos} {a : Expr} {x : Str} {p : Pos}
theorem gf_sortT {χ : List PyData → List Sl → Prop} (hx : x = "sorted") (hg : Gl X x) (hm : X.mg x = none)
    (h : GQ B X true a Γ fun ds Γ1 => ∃ (ns : List (List Int)) (n : Nat) (C : Int), ds = ns.map tupD ∧ 1 ≤ n ∧ (∀ l ∈ ns, l.length = n ∧ TS.Bd C l) ∧ ∀ ms : List (List Int), ms.Perm ns → ms.Pairwise (fun l m => TS.code C l ≤ TS.code C m) → χ (ms.map tupD) Γ1)
    (he : starEach [a] X.env = (false, eval a X.env) :: starEach [] X.env) : GF B X (.Call (.Name x p) [a] [] pos) Γ χ := by
  subst hx
  exact fun Hs σ H Q S g => pe_of (pe_callB cr_sortAny hg hm (by decide +kernel) (pa_cons pe_W pa_nil he) (he := he)) (show teW X a σ H _ from h Hs σ H _ S fun ds Γ1 b vs Hs1 H1 ⟨ns, n, C, e, hn, hl, p⟩ s S1 r q => by
    subst e
    have sq : SqL X.K H1 b vs := r
    refine ⟨n, C, hn, _, vs, rfl, sq, fun x hx => ?_, fun ys l hp hs hq => ?_⟩
    · obtain ⟨m, hm, dv⟩ := (dvs_memT q).2 x hx
      exact ⟨m, tupI_of (dv.mono S1.sub), (hl m hm).1, (hl m hm).2⟩
    · obtain ⟨ms, h1, h2⟩ := dvs_permI hp q
      obtain ⟨f, nn, al⟩ := alone_new S1 hq
      exact g _ Γ1 l ys Hs1 _ (p ms h1 (dvs_pairT (h2.mono S1.sub) hs)) s (S1.aside hq) f nn al upd_same h2)
end
end Py
/-! len(x), x an instance of a class with an own __len__. -/
namespace Py
open PySem PySem.Spec PyProof.Rows L2 Tc Px
variable [Px.Fld]
section
variable {X : Cx} {k j : Nat} {C f : Addr} {fd : FuncData} {sp : Sp}
theorem call_lenI (c : Cxt X k) (hj : j + 1 ≤ k) (hs : PySem.W.findIn X.K (.ref C) "__len__" = some (some (.ref f))) (hf : PySem.W.isFn X.K (.ref f) = true) (G : FnG X.prog X.w X.K X.mg X.base (L2.CX X.prog X.w) j f fd ["self"] sp) (hb : Binds X.K fd ["self"] []) :
    L2.CallR X (.builtin "len") (fun vs H Q => ∃ (a dx : Addr) (gs : List (Str × V)), vs = [.ref a] ∧ H a = some (.ins C dx gs) ∧ sp [.ref a] H (fun v H' => ∃ n : Int, v = .int n ∧ (0 ≤ n ∧ n < 2 ^ 63) ∧ Q (.int n) H') (fun _ _ _ => False)) := by
  intro pins s σ H vs us Q I r h
  obtain ⟨a, dx, gs, rfl, ha, q⟩ := h
  rw [Vals.ref1 r]
  obtain ⟨mA, M, _⟩ := ins_get I.hok ha
  obtain ⟨od, J, _⟩ := M.look
  obtain ⟨m, FR⟩ := I.fr
  refine PySem.W.len_K FR I.ok.mod.kin J hs hf ?_
  have e0 : Env0 X.prog X.w X.K X.mg X.base X.A.in1 X.stack s H := ⟨I.env0.frames, I.env0.mod, I.env0.bs, I.env0.bsz, I.env0.funs, I.env0.frf, I.env0.hok, I.env0.bare⟩
  have r2 : Vals [V.ref a] [Value.ref a] := .cons rfl .nil
  have bd := hb s [.ref a] I.kIn rfl
  refine wpAny_call (codeAny_mono (G.run X.A.in1 X.stack s H ⟨[.ref a], []⟩ [.ref a] [.ref a] _ _ (c.room.mono hj).in1 c.gd e0 (by simpa using bd) r2 q) fun r s' hq => ?_)
  match r, hq with
  | .error e, hq => exact pass_never pins _ _ e s' I hq
  | .ok (.ret z), hq =>
    obtain ⟨x, H', J1, rx, n, rfl, hn, q1⟩ := I.after hq
    obtain ⟨t, rfl⟩ := rx
    exact ⟨hn, .int n, H', J1.tok _, ⟨_, rfl⟩, q1⟩
end
/-- the class's own __len__, on data -/
structure LenC (P : Program) (w : World) (K : PySem.W.Frag) (mg : Str → Option Value) (base : Heap) (C : Addr) (j : Nat) (pre : List PyData → Prop) (f : List PyData → Out) : Prop where
  ex : ∃ (fa : Addr) (fd : FuncData), PySem.W.findIn K (.ref C) "__len__" = some (some (.ref fa)) ∧ PySem.W.isFn K (.ref fa) = true ∧ FnG P w K mg base (L2.CX P w) j fa fd ["self"] (spF 1 pre f) ∧ Binds K fd ["self"] []
section
variable {B : Bas} {X : Cx} {Γ : List Sl} {pos : Pos} {k j : Nat} {C : Addr} {P : Program} {w : World} {K : PySem.W.Frag} {mg : Str → Option Value} {base : Heap}
theorem ge_lenI {x : Str} {p : Pos} {a : Expr} {pre : List PyData → Prop} {f : List PyData → Out} {φ : PyData → List Sl → Prop} (hX : SameX X P w K mg base) (L : LenC P w K mg base C j pre f) (c : Cxt X k) (hj : Nat.ble (j + 1) k = true) (hx : x = "len") (hg : Gl X x) (hm : mg x = none)
    (h : GE B X a Γ fun d Γ1 => ∃ (fs : List (PyData × PyData)) (n : Int), d = inst C fs ∧ pre [d] ∧ f [d] = .ok (.int n) ∧ (0 ≤ n ∧ n < 2 ^ 63) ∧ φ (.int n) Γ1)
    (he : starEach [a] X.env = (false, eval a X.env) :: starEach [] X.env) : GE B X (.Call (.Name x p) [a] [] pos) Γ φ := by
  obtain ⟨rfl, rfl, rfl, rfl, rfl⟩ := hX
  obtain ⟨fa, fd, hs, hf, G, hb⟩ := L.ex
  subst hx
  refine fun Hs σ H Q S g0 => pe_of (pe_callB (call_lenI c (Nat.le_of_ble_eq_true hj) hs hf G hb) hg hm (by decide +kernel) (pa_cons pe_W pa_nil he) (he := he)) (show teW X a σ H _ from h Hs σ H _ S fun d Γ1 v Hs1 H1 ⟨fs, n, e, hp, ef, hn, ph⟩ s S1 q => ?_)
  subst e
  obtain ⟨b, dx, gs, rfl, hb2, nm⟩ := inst_of q
  refine ⟨b, dx, gs, rfl, S1.sub _ _ hb2, Hs1, [inst C fs], S1.sub, .cons q .nil, rfl, hp, fun v Hs' H' k1 k2 k3 => ?_⟩
  rw [ef]
  intro dv
  cases dv
  obtain ⟨s2, S2⟩ := S1.step k3 k1 k2
  exact ⟨n, rfl, hn, g0 (.int n) Γ1 (.int n) Hs' H' ph (s.trans s2) S2 (.int n)⟩
end
end Py
/-! Own lists that are lent: to a call that tells something plain; to a def that only looks at them. xs.extend(..). -/
namespace Py
open PySem PySem.Spec PyProof.Rows L2 Tc Px
variable [Px.Fld]
section
variable {B : Bas} {X : Cx} {Γ : List Sl} {E : DE} {pos ap : Pos}
theorem g1_extend {i : Nat} {x : Str} {xp : Pos} {e : Expr} {spos : Pos} {ad : Addr} {ds0 : List PyData} (hN : idxS X.N x = some i) (hΓ : Γ[i]? = some (.own ad ds0)) (hv : Sees X.env.scope x = true)
    (h : GF B X e Γ fun es Γ1 => ∃ ds, Γ1[i]? = some (.own ad ds) ∧ ds.length + es.length ≤ sizeLine ∧ E.nx (Γ1.set i (.own ad (ds ++ es))))
    (hd : (x == ("__debug__" : Str)) = false) (hcd : (x == ("__classdict__" : Str)) = false)
    (hb : attributeBase (.Name x xp) "extend" X.env (eval (.Name x xp) X.env) = eval (.Name x xp) X.env) (hf : Few X pos e []) (hl : (ap.endLine == pos.line) = true) (hs : starEach [e] X.env = (false, eval e X.env) :: starEach [] X.env)
    (hw : swapsWith (.Call (.Attribute (.Name x xp) "extend" ap) [e] [] pos) none spos.line X.env = pure false) : G1 B X (.Expr (.Call (.Attribute (.Name x xp) "extend" ap) [e] [] pos) spos) Γ E := fun D Hs σ H R S =>
  ps_of (ps_expr (pe_bm PySem.F.plainAttrs_list PySem.F.slot_list_extend PySem.F.type_list_extend mt_extend (pe_var (idxS_ok hN) (sees_ok hv) hd hcd) (pa_cons pe_W pa_nil hs) hb hf hl hs rfl) hw) (by
    obtain ⟨e1, _, _, vs, hv1, _⟩ := S.lst hΓ
    refine ⟨_, e1, .inl ⟨rfl, _, .inl (.inl hv1)⟩, show teW X e σ H _ from h Hs σ H _ S fun es Γ1 b us Hs1 H1 ⟨ds, g1, hz, p⟩ s S1 fb nb al hb2 q => ?_⟩
    obtain ⟨_, _, _, ws, hw1, dv⟩ := S1.lst g1
    exact ⟨ad, b, ws, us, rfl, rfl, hw1, hb2, by rw [dv.len, q.len]; exact hz, R.nx _ Hs1 σ _ p s (S1.upd g1 (dvs_append dv q))⟩)
end
/-! ### lent -/
def maskO : Sl → Sl
  | .own _ _ => .no
  | s => s
/-- nothing of the heap in it -/
def scalD : PyData → Bool
  | .none => true
  | .bool _ => true
  | .int _ => true
  | .str _ => true
  | _ => false
theorem scal_any {H H' : Hp} {v : V} {d : PyData} (h : scalD d = true) (q : Dv H v d) : Dv H' v d := by
  cases q with
  | non => exact .non
  | bl b => exact .bl b
  | int i => exact .int i
  | str z => exact .str z
  | _ => cases h
theorem mask_get {Γ : List Sl} {j : Nat} {s : Sl} (h : (Γ.map maskO)[j]? = some s) : s = .no ∨ (Γ[j]? = some s ∧ ∀ a ds, s ≠ .own a ds) := by
  rw [List.getElem?_map] at h
  cases e : Γ[j]? with
  | none => rw [e] at h; cases h
  | some t =>
    rw [e] at h
    cases h
    cases t with
    | own a ds => exact .inl rfl
    | _ => exact .inr ⟨rfl, fun _ _ z => nomatch z⟩
section
variable {B : Bas} {X : Cx} {Γ : List Sl}
/-- an own list is data while this is told, and stays one's own -/
theorem ge_lend {i : Nat} {a : Addr} {ds : List PyData} {e : Expr} {φ : PyData → List Sl → Prop} (hΓ : Γ[i]? = some (.own a ds))
    (h : ∀ B2 : Bas, Same B.fr B2.fr → Grow B.fr B.hs B2.hs → B2.T = B.T → GE B2 X e ((Γ.map maskO).set i (.d (.list ds))) fun d _ => scalD d = true ∧ φ d Γ) : GE B X e Γ φ := by
  intro Hs σ H Q S g
  obtain ⟨e0, fa, na, vs, hv, dv⟩ := S.lst hΓ
  have k1 : Same Hs (upd Hs a (.lst vs)) := Same.new na
  have hi : i < Γ.length := by
    cases q : Γ[i]? with
    | none => rw [q] at hΓ; cases hΓ
    | some t => exact (List.getElem?_eq_some_iff.mp q).1
  have gr1 : Grow B.fr B.hs (upd Hs a (.lst vs)) := S.gr.trans ⟨k1, fun b n f => by
    have : b ≠ a := fun z => f (z ▸ fa)
    exact (upd_ne this).trans n⟩
  have sub1 : Same (upd Hs a (.lst vs)) H := fun b u e => by
    by_cases z : b = a
    · subst z
      rw [upd_same] at e
      rw [hv]
      exact e
    · rw [upd_ne z] at e
      exact S.sub b u e
  have S2 : Sx ⟨H, upd Hs a (.lst vs), B.T⟩ (upd Hs a (.lst vs)) σ H ((Γ.map maskO).set i (.d (.list ds))) := by
    refine ⟨Same.refl _, Grow.refl _ _, sub1, by rw [List.length_set, List.length_map]; exact S.len, fun j s ej => ?_, fun j l b es c fs e1 e2 ne => ?_, tabs_fz S.tb hv⟩
    · rcases get_set ej with ⟨rfl, rfl⟩ | ⟨nj, ej⟩
      · exact ⟨_, e0, .lst (.inl upd_same) (dv.mono k1)⟩
      · rcases mask_get ej with rfl | ⟨ej, no⟩
        · trivial
        · have q := S.sl j s ej
          cases s with
          | no => trivial
          | d x =>
            obtain ⟨v, e, d⟩ := q
            exact ⟨v, e, d.mono k1⟩
          | v x => exact q
          | own b es => exact absurd rfl (no b es)
    · rcases get_set e1 with ⟨_, z⟩ | ⟨_, e1⟩
      · cases z
      · rcases mask_get e1 with z | ⟨_, no⟩
        · cases z
        · exact absurd rfl (no b es)
  refine h ⟨H, upd Hs a (.lst vs), B.T⟩ S.fr gr1 rfl (upd Hs a (.lst vs)) σ H Q S2 fun d Γ' v Hs' H' ⟨sc, p⟩ s S' q => ?_
  obtain ⟨s3, S3⟩ := S.step (Grow.refl H Hs) S'.fr (S.sub.trans S'.fr)
  exact g d Γ v Hs H' p s3 S3 (scal_any sc q)
end
/-! ### a def that looks at a list (its second argument) -/
def preLst (K : PySem.W.Frag) (pre : PyData → List PyData → Prop) (f : PyData → List PyData → Out) : Hp → Hp → List V → Out → Prop := fun H Hs vs out =>
  ∃ (v1 : V) (a : Addr) (pv : List V) (d1 : PyData) (ps : List PyData), vs = [v1, .ref a] ∧ Dv Hs v1 d1 ∧ SqL K H a pv ∧ DvAll Hs pv ps ∧ pre d1 ps ∧ out = f d1 ps
/-- a value that is a list -/
structure LstV (K : PySem.W.Frag) (B : Bas) (a : Addr) (ps : List PyData) : Prop where
  ex : ∃ pv, SqL K B.fr a pv ∧ DvAll B.hs pv ps
section
variable {P : Program} {w : World} {K : PySem.W.Frag} {mg : Str → Option Value} {base : Heap}
theorem fn_lst {x qual : Str} {st : Stmt} {f : Addr} {fd : FuncData} {N ps : List Str} {k : Nat} (F : Fun K x qual st f fd) (S : FnScope N ps (defScope st)) (sm : ∃ o, K.lookup sysModules = some o) (hl : ps.length ≤ N.length) (h2 : ps.length = 2) (hN : 2 ≤ N.length) (pre : PyData → List PyData → Prop) (g : PyData → List PyData → Out)
    (body : ∀ (cdv : Value) (A : Around) (outer : List Env) (s : Shared) (H : Hp) (E : XK) (B : Bas) (d : PyData) (ms : List PyData) (a : Addr), pre d ms → LstV K B a ms →
      Bod (cxOf (L2.CX P w) P w K mg base N qual (defScope st) f cdv A outer s H E) k → Exc B (cxOf (L2.CX P w) P w K mg base N qual (defScope st) f cdv A outer s H E) (fun C e _ => g d ms = .up C e) →
      Gs B (cxOf (L2.CX P w) P w K mg base N qual (defScope st) f cdv A outer s H E) (defBody st) (slots0 N [.d d, .v (.ref a)]) { nx := fun _ => g d ms = .ok .none, rt := fun e _ => g d ms = .ok e }) :
    FnG P w K mg base (L2.CX P w) (k + 1) f fd ps (spS 2 (preLst K pre g)) := by
  have key := fn_vals F S sm hl (preLst K pre g) fun cdv A outer s H E B vs out l hp c ex => by
    obtain ⟨v1, a, pv, d1, ms, rfl, dv, sq, da, hp, rfl⟩ := hp
    have b := body cdv A outer s H E B d1 ms a hp ⟨pv, sq, da⟩ c ex
    have e : slots0 N ([v1, V.ref a].map Sl.v) = (slots0 N [.d d1, .v (.ref a)]).set 0 (.v v1) := rfl
    rw [e]
    refine gs_vd (v := v1) (d := d1) 0 (by rw [List.getElem?_set_self (by show 0 < ([Sl.d d1, .v (.ref a)] ++ List.replicate _ _).length; rw [List.length_append]; exact Nat.lt_of_lt_of_le (by decide : 0 < 2) (Nat.le_add_right _ _))]) dv ?_
    rw [List.set_set]
    exact b
  rw [h2] at key
  exact key
end
end Py
/-! Lists that a def only looks at: read, subscripted, passed on. -/
namespace Py
open PySem PySem.Spec PyProof.Rows L2 Tc Px
variable [Px.Fld]
theorem sqL_up {K : PySem.W.Frag} {H H' : Hp} (s : Same H H') {a : Addr} {xs : List V} (h : SqL K H a xs) : SqL K H' a xs := by
  rcases h with h | h
  · exact .inl (rd_up s h)
  · exact .inr h
section
variable {B : Bas} {X : Cx} {Γ : List Sl} {pos : Pos} {k j : Nat} {P : Program} {w : World} {K : PySem.W.Frag} {mg : Str → Option Value} {base : Heap}
theorem gq_v {i : Nat} {x : Str} {a : Addr} {ps : List PyData} {φ : List PyData → List Sl → Prop} (eK : X.K = K) (L : LstV K B a ps) (hN : idxS X.N x = some i) (hΓ : Γ[i]? = some (.v (.ref a))) (hv : Sees X.env.scope x = true) (h : φ ps Γ) (hd : (x == ("__debug__" : Str)) = false) (hcd : (x == ("__classdict__" : Str)) = false) :
    GQ B X true (.Name x pos) Γ φ := fun Hs σ H Q S g => by
  subst eK
  obtain ⟨pv, sq, da⟩ := L.ex
  exact pe_of (pe_var (idxS_ok hN) (sees_ok hv) hd hcd) ⟨.ref a, S.val hΓ, g ps Γ a pv Hs H h (Same.refl _) S (show SqL X.K H a pv from sqL_up S.fr sq) (da.mono S.gr.same)⟩
theorem ix_v {i : Nat} {x : Str} {p0 : Pos} {b : Expr} {a : Addr} {ps : List PyData} {φ : PyData → List Sl → Prop} (eK : X.K = K) (L : LstV K B a ps) (hN : idxS X.N x = some i) (hΓ : Γ[i]? = some (.v (.ref a))) (hv : Sees X.env.scope x = true) (hs : PlainIx b)
    (h : GE B X b Γ fun d2 Γ2 => IxD (.list ps) d2 fun d => φ d Γ2) (hd : (x == ("__debug__" : Str)) = false) (hcd : (x == ("__classdict__" : Str)) = false) : GE B X (.Subscript (.Name x p0) b pos) Γ φ := fun Hs σ H Q S g => by
  subst eK
  obtain ⟨pv, sq, da⟩ := L.ex
  refine pe_of (pe_ix ix_list (pe_var (idxS_ok hN) (sees_ok hv) hd hcd) pe_W hs) ⟨_, S.val hΓ, h Hs σ H _ S fun d2 Γ2 v2 Hs2 H2 p2 s2 S2 q2 => ?_⟩
  cases q2 with
  | int j =>
    obtain ⟨x, ex, kx⟩ := p2
    obtain ⟨v, ev, dx⟩ := at_dvs (da.mono S2.gr.same) ex
    exact ⟨a, pv, j, v, rfl, rfl, sqL_up S2.fr sq, ev, g x Γ2 v Hs2 H2 kx s2 S2 dx⟩
  | _ => exact p2.elim
/-- a def that looks at a list is called -/
theorem ge_callL {x : Str} {p : Pos} {e1 e2 : Expr} {ps : List Str} {pre : PyData → List PyData → Prop} {f : PyData → List PyData → Out} {ψ : Addr → PyData → List Sl → Prop} {φ : PyData → List Sl → Prop} (hX : SameX X P w K mg base) (F : Call P w K mg base (L2.CX P w) j x ps (spS 2 (preLst K pre f))) (c : Cxt X k) (hj : Nat.ble j k = true) (hg : Gl X x) (ex : Exc B X ψ)
    (h : GE B X e1 Γ fun d Γ1 => GQ B X true e2 Γ1 fun ds Γ2 => pre d ds ∧ (f d ds).to (fun r => φ r Γ2) (fun C r => ψ C r Γ2)) (hdb : (x == ("__debug__" : Str)) = false)
    (he : starEach [e1, e2] X.env = (false, eval e1 X.env) :: starEach [e2] X.env) (he2 : starEach [e2] X.env = (false, eval e2 X.env) :: starEach [] X.env) (hpl : (backTo pos (starEach [e2] X.env)).any (·.1) = false) : GE B X (.Call (.Name x p) [e1, e2] [] pos) Γ φ := fun Hs σ H Q S g => by
  obtain ⟨rfl, rfl, rfl, rfl, rfl⟩ := hX
  obtain ⟨W, tk, hW⟩ := ex
  refine call_W F c (Nat.le_of_ble_eq_true hj) hg tk hdb he hpl (pa_of (pa_cons pe_W (pa_cons pe_W pa_nil he2) he) (show teW X e1 σ H _ from h Hs σ H _ S fun d Γ1 v Hs1 H1 h2 s1 S1 q1 => show teW X e2 σ H1 _ from h2 Hs1 σ H1 _ S1 fun ds Γ2 a vs Hs2 H2 ⟨hp, hq⟩ s2 S2 sq da => ?_))
  refine ⟨Hs2, f d ds, S2.sub, rfl, ⟨v, a, vs, d, ds, rfl, q1.mono s2, sq, da, hp, rfl⟩, fun v' Hs3 H3 k1 k2 k3 => ?_⟩
  obtain ⟨s3, S3⟩ := S2.step k3 k1 k2
  cases e : f d ds with
  | ok r =>
    rw [e] at hq
    exact fun dd => g r Γ2 v' Hs3 H3 hq (s1.trans (s2.trans s3)) S3 dd
  | up C r =>
    rw [e] at hq
    exact fun dvv dd hdd => hW C r Γ2 v' Hs3 σ H3 hq S3 dvv dd hdd
end
end Py
/-! enumerate(list), reversed(range(n)), s.isalpha(), s.islower(). -/
namespace Py
open PySem PySem.Spec PyProof.Rows L2 Tc Px
variable [Px.Fld]
section
variable {B : Bas} {X : Cx} {Γ : List Sl} {pos ap : Pos}
theorem its_enumL {K : PySem.W.Frag} {keep : List Sl → Prop} {Hs : Hp} {a : Addr} {ds : List PyData} (p : Pers K keep true Hs a ds) :
    Its keep Hs (L2.Ite K a) ds.length (fun i => .tuple [.int i, nth ds i]) := by
  refine ⟨fun H => ∃ us, SqL K H a us ∧ us.length = ds.length, (L2.Ite K a).yld, ⟨?_, ?_, fun _ _ _ _ _ _ y => y⟩, ?_, ?_⟩
  · rintro i H hi ⟨us, q1, l1⟩
    exact ⟨us, us[i]'(by omega), q1, by simp [show i < us.length by omega]⟩
  · rintro H ⟨us, q1, l1⟩
    exact ⟨us, q1, Nat.le_of_eq l1⟩
  · rintro B2 Hs2 σ H Γ k1 s S
    obtain ⟨us, q1, d1⟩ := p B2 Hs2 σ H Γ k1 s S
    exact ⟨us, q1, d1.len⟩
  · rintro B2 i Hs2 σ H Γ x H' hi k1 s S ⟨c, y, rfl, hc, rfl, g1⟩
    obtain ⟨us, q1, d1⟩ := p B2 Hs2 σ H Γ k1 s S
    obtain ⟨d, e1, v1⟩ := dvs_get' d1 (g1 us q1)
    obtain ⟨kk2, T⟩ := S.new (o := .tup [.int (i : Nat), y]) hc
    refine ⟨_, kk2, T, ?_⟩
    show Dv _ _ (.tuple [.int i, nth ds i])
    rw [nth_at e1]
    exact .tup (.inl upd_same) (.cons (.int _) (.cons (v1.mono kk2) .nil))
theorem gi_enumL {x : Str} {p tpos : Pos} {e : Expr} {elts : List Expr} {n1 : Nat} {φ : Nat → (Nat → PyData) → (List Sl → Prop) → List Sl → Prop} (hx : x = "enumerate") (hg : Gl X x) (hm : X.mg x = none)
    (hs : starEach [e] X.env = [(false, eval e X.env)])
    (h : GS B X true e Γ fun ds keep Γ1 => keep Γ1 ∧ φ ds.length (fun i => .tuple [.int i, nth ds i]) keep Γ1) : GI B X (.Tuple elts n1 tpos) (.Call (.Name x p) [e] [] pos) Γ φ := by
  subst hx
  intro Hs σ H R S g
  refine pi_of (pi_enum hg hm (pa_cons pe_W pa_nil hs) hs) ?_
  refine show teW X e σ H _ from h Hs σ H _ S fun ds keep Γ1 a Hs1 H1 ⟨k1, p1⟩ s1 S1 pr => ?_
  obtain ⟨us, q1, d1⟩ := pers_q pr S1 k1
  exact ⟨a, us, rfl, q1, g _ _ keep Γ1 _ Hs1 H1 p1 s1 S1 (its_enumL pr)⟩
theorem gi_revR {x y : Str} {p p2 pos2 : Pos} {e tg : Expr} {φ : Nat → (Nat → PyData) → (List Sl → Prop) → List Sl → Prop} (hx : x = "reversed") (hg : Gl X x) (hm : X.mg x = none) (hy : y = "range") (hg2 : Gl X y) (hm2 : X.mg y = none)
    (hs : starEach [.Call (.Name y p2) [e] [] pos2] X.env = (false, eval (.Call (.Name y p2) [e] [] pos2) X.env) :: starEach [] X.env) (hs2 : starEach [e] X.env = (false, eval e X.env) :: starEach [] X.env)
    (h : GE B X e Γ fun d Γ1 => ∃ n : Nat, d = .int n ∧ n < 2 ^ 62 ∧ φ n (fun i => .int ((n : Int) - 1 - i)) (fun _ => True) Γ1) : GI B X tg (.Call (.Name x p) [.Call (.Name y p2) [e] [] pos2] [] pos) Γ φ := by
  subst hx hy
  intro Hs σ H R S g
  refine pi_of (pi_revR hg hm (prg_1 hg2 hm2 pe_W hs2) hs) ?_
  refine show teW X e σ H _ from h Hs σ H _ S fun d Γ1 v Hs1 H1 ⟨n, e1, hn, p1⟩ s1 S1 q => ?_
  subst e1
  cases q
  refine ⟨n, rfl, by decide, by decide, by omega, by omega, ?_⟩
  have e2 : ((n : Int) - 0).toNat = n := by omega
  rw [e2]
  refine g _ _ (fun _ => True) Γ1 _ Hs1 H1 p1 s1 S1 ?_
  have k := its_rgC (lo := 0 + (n : Int) - 1) (c := -1) (n := n) (Hs := Hs1)
  rw [show (fun i : Nat => PyData.int ((n : Int) - 1 - i)) = fun i : Nat => PyData.int (0 + (n : Int) - 1 + (i : Nat) * (-1)) from funext fun i => congrArg PyData.int (by omega)]
  exact k
variable {a : Expr} {φ : PyData → List Sl → Prop}
theorem ge_isalpha (h : GE B X a Γ fun d Γ1 => ∃ z, d = .str z ∧ φ (.bool (Txt.isalpha z)) Γ1) (hbase : attributeBase a "isalpha" X.env (eval a X.env) = eval a X.env := by rfl) (hline : (ap.endLine == pos.line) = true := by rfl) : GE B X (.Call (.Attribute a "isalpha" ap) [] [] pos) Γ φ :=
  ge_m0 (g0 := fun z => .bl (Txt.isalpha z)) (f0 := fun z => .bool (Txt.isalpha z)) PySem.F.slot_str_isalpha PySem.F.type_str_isalpha mt_isalpha (fun _ _ => .bl _) h hbase hline
theorem ge_islower (h : GE B X a Γ fun d Γ1 => ∃ z, d = .str z ∧ φ (.bool (Txt.islower z)) Γ1) (hbase : attributeBase a "islower" X.env (eval a X.env) = eval a X.env := by rfl) (hline : (ap.endLine == pos.line) = true := by rfl) : GE B X (.Call (.Attribute a "islower" ap) [] [] pos) Γ φ :=
  ge_m0 (g0 := fun z => .bl (Txt.islower z)) (f0 := fun z => .bool (Txt.islower z)) PySem.F.slot_str_islower PySem.F.type_str_islower mt_islower (fun _ _ => .bl _) h hbase hline
end
end Py
/-! A list of lists of one's own: made, its lists added to in turn, given away. -/
namespace Py
open PySem PySem.Spec PyProof.Rows L2 Tc Px
variable [Px.Fld]
def NoOwn (Γ : List Sl) : Prop := ∀ (i : Nat) (a : Addr) (ds : List PyData), Γ[i]? ≠ some (Sl.own a ds)
theorem NoOwn.set {Γ : List Sl} (h : NoOwn Γ) {j : Nat} {s : Sl} (hs : ∀ a ds, s ≠ Sl.own a ds) : NoOwn (Γ.set j s) := fun i a ds e => by
  rcases get_set e with ⟨_, z⟩ | ⟨_, e⟩
  · exact hs a ds z.symm
  · exact h i a ds e
theorem NoOwn.clr {Γ : List Sl} (h : NoOwn Γ) (vs : List Nat) : NoOwn (clr Γ vs) := fun i a ds e => h i a ds (clr_some e fun z => nomatch z).2
theorem Sx_all {B : Bas} {Hs : Hp} {σ : L2.St} {H : Hp} {Γ : List Sl} (S : Sx B Hs σ H Γ) (no : NoOwn Γ) : Sx ⟨H, Hs, B.T⟩ Hs σ H Γ :=
  ⟨Same.refl _, Grow.refl _ _, S.sub, S.len, fun i s h => by
    have q := S.sl i s h
    cases s with
    | own a ds => exact absurd h (no i a ds)
    | _ => exact q, fun i _ a ds _ _ e _ _ => absurd e (no i a ds), S.tb⟩
/-- L is a list of the lists as, in which the data pss stand; nobody else's data hold them -/
structure Nst (B : Bas) (Hs H : Hp) (L : Addr) (as : List Addr) (pss : List (List PyData)) : Prop where
  top : H L = some (.lst (as.map V.ref))
  len : as.length = pss.length
  inn : ∀ (i : Nat) (a : Addr) (ps : List PyData), as[i]? = some a → pss[i]? = some ps → ∃ vs, H a = some (.lst vs) ∧ DvAll Hs vs ps
  nd : (L :: as).Nodup
  off : ∀ a ∈ L :: as, B.fr a = none ∧ Hs a = none
theorem Nst.there {B : Bas} {Hs H : Hp} {L : Addr} {as : List Addr} {pss : List (List PyData)} (N : Nst B Hs H L as pss) {a : Addr} (h : a ∈ L :: as) : ∃ vs, H a = some (.lst vs) := by
  rcases List.mem_cons.mp h with rfl | h
  · exact ⟨_, N.top⟩
  · obtain ⟨i, hi, e⟩ := List.getElem_of_mem h
    have hp : i < pss.length := by rw [← N.len]; exact hi
    obtain ⟨vs, e2, _⟩ := N.inn i a pss[i] (by rw [List.getElem?_eq_getElem hi, e]) (List.getElem?_eq_getElem hp)
    exact ⟨vs, e2⟩
theorem Nst.mono {B : Bas} {Hs H Hs2 H2 : Hp} {L : Addr} {as : List Addr} {pss : List (List PyData)} (N : Nst B Hs H L as pss) (s : Same H H2) (g : Grow H Hs Hs2) : Nst B Hs2 H2 L as pss :=
  ⟨s _ _ N.top, N.len, fun i a ps h1 h2 => by
    obtain ⟨vs, e, d⟩ := N.inn i a ps h1 h2
    exact ⟨vs, s _ _ e, d.mono g.same⟩, N.nd, fun a ha => by
    obtain ⟨vs, e⟩ := N.there ha
    exact ⟨(N.off a ha).1, g.off a (N.off a ha).2 (by rw [e]; exact fun z => nomatch z)⟩⟩
/-- one of the lists is given one more thing -/
theorem Nst.snoc {B : Bas} {Hs H : Hp} {L : Addr} {as : List Addr} {pss : List (List PyData)} (N : Nst B Hs H L as pss) {j : Nat} {a : Addr} {ps : List PyData} {vs : List V} {v : V} {d : PyData} (ha : as[j]? = some a) (hp : pss[j]? = some ps) (hv : H a = some (.lst vs)) (dv : Dv Hs v d) :
    Nst B Hs (upd H a (.lst (vs ++ [v]))) L as (pss.set j (ps ++ [d])) := by
  have hm : a ∈ as := List.mem_of_getElem? ha
  have nL : L ≠ a := fun z => (List.nodup_cons.mp N.nd).1 (z ▸ hm)
  have ndA := (List.nodup_cons.mp N.nd).2
  refine ⟨(upd_ne nL).trans N.top, by rw [List.length_set]; exact N.len, fun i b qs h1 h2 => ?_, N.nd, N.off⟩
  by_cases e : i = j
  · subst e
    rw [ha] at h1
    cases h1
    rw [List.getElem?_set_self (List.getElem?_eq_some_iff.mp hp).1] at h2
    cases h2
    obtain ⟨us, e2, d2⟩ := N.inn i a ps ha hp
    rw [hv] at e2
    cases e2
    exact ⟨_, upd_same, dvs_snoc d2 dv⟩
  · rw [List.getElem?_set_ne fun z => e z.symm] at h2
    obtain ⟨us, e2, d2⟩ := N.inn i b qs h1 h2
    have nb : b ≠ a := fun z => by
      subst z
      obtain ⟨hi, e3⟩ := List.getElem?_eq_some_iff.mp h1
      obtain ⟨hj, e4⟩ := List.getElem?_eq_some_iff.mp ha
      exact e ((List.getElem_inj ndA).mp (e3.trans e4.symm))
    exact ⟨us, (upd_ne nb).trans e2, d2⟩
theorem Sx_off {B : Bas} {Hs : Hp} {σ : L2.St} {H : Hp} {Γ : List Sl} {a : Addr} {vs : List V} {o : HO} (S : Sx B Hs σ H Γ) (no : NoOwn Γ) (hv : H a = some (.lst vs)) (fa : B.fr a = none) (na : Hs a = none) : Sx B Hs σ (upd H a o) Γ := by
  refine ⟨fun b u e => ?_, S.gr, fun b u e => ?_, S.len, fun i s h => ?_, S.ap, tabs_upd S.tb hv⟩
  · exact (upd_ne fun z => by rw [z, fa] at e; cases e).trans (S.fr b u e)
  · exact (upd_ne fun z => by rw [z, na] at e; cases e).trans (S.sub b u e)
  · have q := S.sl i s h
    cases s with
    | own b ds => exact absurd h (no i b ds)
    | _ => exact q
/-- all of it becomes data -/
theorem Nst.give {B : Bas} {Hs H : Hp} {σ : L2.St} {Γ : List Sl} {L : Addr} {as : List Addr} {pss : List (List PyData)} (N : Nst B Hs H L as pss) (S : Sx B Hs σ H Γ) (no : NoOwn Γ) : ∃ Hs', Same Hs Hs' ∧ Sx B Hs' σ H Γ ∧ Dv Hs' (.ref L) (.list (pss.map .list)) := by
  let Hs' : Hp := fun b => if b ∈ L :: as then H b else Hs b
  have k : Same Hs Hs' := fun b u e => by
    show (if b ∈ L :: as then H b else Hs b) = some u
    by_cases z : b ∈ L :: as
    · rw [(N.off b z).2] at e
      cases e
    · rw [if_neg z]
      exact e
  have sub : Same Hs' H := fun b u e => by
    have e : (if b ∈ L :: as then H b else Hs b) = some u := e
    by_cases z : b ∈ L :: as
    · rw [if_pos z] at e
      exact e
    · rw [if_neg z] at e
      exact S.sub b u e
  have inn : ∀ {a : Addr}, a ∈ L :: as → Hs' a = H a := fun {a} h => by
    show (if a ∈ L :: as then H a else Hs a) = H a
    rw [if_pos h]
  refine ⟨Hs', k, ⟨S.fr, S.gr.trans ⟨k, fun b n f => ?_⟩, sub, S.len, fun i s h => ?_, S.ap, ⟨S.tb.1, fun p hp => ?_⟩⟩, ?_⟩
  · show (if b ∈ L :: as then H b else Hs b) = none
    by_cases z : b ∈ L :: as
    · exact absurd (N.off b z).1 f
    · rw [if_neg z]
      exact n
  · have q := S.sl i s h
    cases s with
    | no => trivial
    | d x =>
      obtain ⟨v, e, d⟩ := q
      exact ⟨v, e, d.mono k⟩
    | v x => exact q
    | own b ds => exact absurd h (no i b ds)
  · show (if p.1 ∈ L :: as then H p.1 else Hs p.1) = none
    by_cases z : p.1 ∈ L :: as
    · obtain ⟨vs, e⟩ := N.there z
      obtain ⟨ps, e2⟩ := tab_there S.tb hp
      rw [e] at e2
      cases e2
    · rw [if_neg z]
      exact S.tb.2 p hp
  · refine .lst (.inl ((inn List.mem_cons_self).trans N.top)) ?_
    have key : ∀ (bs : List Addr) (qss : List (List PyData)), bs.length = qss.length → (∀ b ∈ bs, b ∈ as) → (∀ (i : Nat) (a : Addr) (ps : List PyData), bs[i]? = some a → qss[i]? = some ps → ∃ vs, H a = some (.lst vs) ∧ DvAll Hs vs ps) → DvAll Hs' (bs.map V.ref) (qss.map PyData.list) := by
      intro bs
      induction bs with
      | nil =>
        intro qss hl _ _
        match qss, hl with
        | [], _ => exact .nil
      | cons b bs ih =>
        intro qss hl hm h
        match qss, hl with
        | q :: qss, hl =>
          obtain ⟨vs, e, d⟩ := h 0 b q rfl rfl
          refine .cons (.lst (.inl ((inn (List.mem_cons_of_mem _ (hm b List.mem_cons_self))).trans e)) (d.mono k)) (ih qss (Nat.succ.inj hl) (fun c hc => hm c (List.mem_cons_of_mem _ hc)) fun i a ps h1 h2 => h (i + 1) a ps h1 h2)
    exact key as pss N.len (fun _ h => h) N.inn
section
variable {B : Bas} {X : Cx} {Γ : List Sl} {pos : Pos} {k : Nat}
/-- [[] for t in iter] -/
theorem nest_t {t iter : Expr} {scope : Scope} {own : List (Str × Nat)} {lp : Pos} {φ : Nat → List Sl → Prop}
    (h : GI B X t iter Γ fun n f keep Γ1 => keep (clr Γ1 (own.map (·.2))) ∧ n < sizeLine ∧ NoOwn Γ1 ∧
      (∀ i, i < n → ∀ B', Blk X scope fun Y => GC B' Y (own.map (·.2)) t (f i) (clr Γ1 (own.map (·.2))) fun Γ2 => NoOwn Γ2 ∧ clr Γ2 (own.map (·.2)) = clr Γ1 (own.map (·.2))) ∧ φ n (clr Γ1 (own.map (·.2))))
    {Hs : Hp} {σ : L2.St} {H : Hp} {Q : VK} (S : Sx B Hs σ H Γ)
    (g : ∀ n Γ' L as Hs' H', φ n Γ' → NoOwn Γ' → Same Hs Hs' → Sx B Hs' σ H' Γ' → Nst B Hs' H' L as (List.replicate n []) → Q (.ref L) H') :
    tLc (tiW X t iter) (tgB X scope t) (tpB X scope []) (teB X scope (.List [] lp)) (own.map (·.2)) σ H Q :=
  h Hs σ H _ S fun n f keep Γ1 J Hs1 H1 ⟨kp, hn, no1, step, fin⟩ s S1 ⟨G, Y, w, wg, wy⟩ D hD => by
    obtain ⟨fD, nD, al⟩ := alone_new S1 hD
    have noC : NoOwn (clr Γ1 (own.map (·.2))) := no1.clr _
    refine lc_it w (fun i H' => ∃ as Hs', Same Hs1 Hs' ∧ Sx B Hs' σ H' (clr Γ1 (own.map (·.2))) ∧ as.length = i ∧ Nst B Hs' H' D as (List.replicate i [])) ⟨[], Hs1, Same.refl _, (S1.aside hD).clr rfl (fun _ _ => rfl), rfl, upd_same, rfl, fun i a ps e => (nomatch e), List.nodup_cons.mpr ⟨fun z => (nomatch z), .nil⟩, fun a ha => by
      rcases List.mem_cons.mp ha with rfl | z
      · exact ⟨fD, nD⟩
      · cases z⟩ ?_ ?_ ?_
    · rintro i H' hi ⟨as, Hs', s', S', _⟩
      exact wg B Hs' σ H' _ kp s' S'
    · rintro i x H' H'' hi ⟨as, Hs', s', S', hl, N⟩ y
      have SB := Sx_all S' noC
      obtain ⟨Hs2, s2, S2, dx⟩ := wy _ i Hs' σ H' _ x H'' hi kp s' SB y
      have body := step i hi ⟨H', Hs', B.T⟩
      have S2w : Sx ⟨H', Hs', B.T⟩ Hs2 (wipe σ (own.map (·.2))) H'' (clr Γ1 (own.map (·.2))) := by
        have z := S2.clr (vs := own.map (·.2)) (wipe_length σ _) fun j hj => wipe_out hj
        rw [clr_clr] at z
        exact z
      intro s0 H0 C cl fp
      refine body s0 H0 C cl fp Hs2 (wipe σ (own.map (·.2))) H'' x _ S2w dx fun Γ2 Hs3 σ3 H3 ⟨no2, e2⟩ s3 S3 w3 => ?_
      have w3 : wipe σ3 (own.map (·.2)) = wipe σ (own.map (·.2)) := w3.trans (wipe_eq (wipe_length _ _) fun j hj => wipe_out hj)
      refine ⟨w3, fun s0 H0 C cl fp => ?_⟩
      refine (gp_nil (φ := fun b Γ' => b = true ∧ Γ' = Γ2) ⟨rfl, rfl⟩ : GP ⟨H', Hs', B.T⟩ _ [] Γ2 _) Hs3 σ3 H3 _ S3 fun b Γ3 Hs4 H4 ⟨eb, eg⟩ s4 S4 => ?_
      subst eb eg
      refine iteT fun s0 H0 C cl fp => ?_
      refine (gf_list (ga_nil ⟨Nat.zero_le _, rfl, rfl⟩) : GF ⟨H', Hs', B.T⟩ _ (.List [] lp) Γ3 (fun ds Γ' => ds = [] ∧ Γ' = Γ3)) Hs4 σ3 H4 _ S4 fun ds Γ' a vs Hs5 H5 ⟨e1, e3⟩ s5 S5 f5 n5 al5 h5 d5 => ?_
      subst e1 e3
      cases d5
      have sAll : Same Hs' Hs5 := s2.trans (s3.trans (s4.trans s5))
      have f5 : H' a = none := f5
      have N5 : Nst B Hs5 H5 D as (List.replicate i []) := N.mono S5.fr S5.gr
      have na : a ∉ D :: as := fun z => by
        obtain ⟨us, e⟩ := N.there z
        rw [f5] at e
        cases e
      have fB : B.fr a = none := by
        cases q : B.fr a with
        | none => rfl
        | some u => rw [S'.fr a u q] at f5; cases f5
      have nD : a ≠ D := fun z => na (z ▸ List.mem_cons_self)
      have S6 : Sx B Hs5 σ H5 (clr Γ1 (own.map (·.2))) := by
        obtain ⟨l, e⟩ := wipe_same w3
        have z := (S5.clr (vs := own.map (·.2)) l.symm fun j hj => (e j hj).symm)
        rw [e2] at z
        exact Sx.under (B2 := ⟨H', Hs', B.T⟩) S'.fr S'.gr rfl z
      have hD5 := N5.top
      refine ⟨as.map V.ref, hD5, ?_, as ++ [a], Hs5, s'.trans sAll, Sx_off S6 noC hD5 (N5.off D List.mem_cons_self).1 (N5.off D List.mem_cons_self).2, by rw [List.length_append, hl] <;> rfl, ?_⟩
      · rw [List.length_map, hl]
        omega
      refine ⟨?_, ?_, fun j b ps h1 h2 => ?_, ?_, fun b hb => ?_⟩
      · rw [upd_same, List.map_append] <;> rfl
      · rw [List.length_append, hl, List.length_replicate] <;> rfl
      · have hps : ps = [] := List.eq_of_mem_replicate (List.mem_of_getElem? h2)
        subst hps
        by_cases z : j < as.length
        · rw [List.getElem?_append_left z] at h1
          have hb : b ∈ D :: as := List.mem_cons_of_mem _ (List.mem_of_getElem? h1)
          obtain ⟨us, e6, d6⟩ := N5.inn j b [] h1 (by rw [List.getElem?_replicate, if_pos (by omega)])
          have nb : b ≠ D := fun z => (List.nodup_cons.mp N.nd).1 (z ▸ List.mem_of_getElem? h1)
          exact ⟨us, (upd_ne nb).trans e6, d6⟩
        · rw [List.getElem?_append_right (by omega)] at h1
          have eb : a = b := by
            cases q : j - as.length with
            | zero =>
              rw [q] at h1
              exact Option.some.inj h1
            | succ m =>
              rw [q] at h1
              cases h1
          subst eb
          exact ⟨[], (upd_ne nD).trans h5, .nil⟩
      · rw [← List.cons_append, List.nodup_append]
        refine ⟨N.nd, by simp, fun x hx y hy => ?_⟩
        rw [List.mem_singleton] at hy
        subst hy
        exact fun z => na (z ▸ hx)
      · rw [← List.cons_append, List.mem_append, List.mem_singleton] at hb
        rcases hb with hb | rfl
        · exact N5.off b hb
        · exact ⟨fB, n5⟩
    · rintro H' ⟨as, Hs', s', S', hl, N⟩
      exact g n _ D as Hs' H' fin noC (s.trans s') S' N
end
end Py
/-! A def that makes a list of lists, adds to them in turn, and returns it. -/
namespace Py
open PySem PySem.Spec PyProof.Rows L2 Tc Px
variable [Px.Fld]
section
variable {B : Bas} {X : Cx} {Γ : List Sl} {E : DE} {k : Nat} {N : List Str}
/-- xP[xp].append(xa), a list of lists of one's own -/
theorem nst_app {xP xp xa : Str} {p3 p4 p5 sp ap callp ep : Pos} {ix ip ia : Nat} {L : Addr} {as : List Addr} {pss : List (List PyData)} {j : Nat} {i : Int} {D : Ends} {Hs : Hp} {σ : L2.St} {H : Hp}
    (hP : idxS X.N xP = some ix) (hp : idxS X.N xp = some ip) (ha : idxS X.N xa = some ia) (vP : Sees X.env.scope xP = true) (vp : Sees X.env.scope xp = true) (va : Sees X.env.scope xa = true)
    (hd : ((xP == ("__debug__" : Str)) = false ∧ (xP == ("__classdict__" : Str)) = false) ∧ ((xp == ("__debug__" : Str)) = false ∧ (xp == ("__classdict__" : Str)) = false) ∧ (xa == ("__debug__" : Str)) = false ∧ (xa == ("__classdict__" : Str)) = false)
    (hs : PlainIx (Expr.Name xp p4)) (hb : attributeBase (.Subscript (.Name xP p3) (.Name xp p4) sp) "append" X.env (eval (.Subscript (.Name xP p3) (.Name xp p4) sp) X.env) = eval (.Subscript (.Name xP p3) (.Name xp p4) sp) X.env) (hf : Few X callp (.Name xa p5) []) (hl : (ap.endLine == callp.line) = true)
    (hst : starEach [.Name xa p5] X.env = (false, eval (.Name xa p5) X.env) :: starEach [] X.env) (hw : swapsWith (.Call (.Attribute (.Subscript (.Name xP p3) (.Name xp p4) sp) "append" ap) [.Name xa p5] [] callp) none ep.line X.env = pure false)
    (S : Sx B Hs σ H Γ) (no : NoOwn Γ) (Ns : Nst B Hs H L as pss) (hL : Γ[ix]? = some (.v (.ref L))) (hj : Γ[ip]? = some (.d (.int j))) (hi : Γ[ia]? = some (.d (.int i))) (jl : j < pss.length) (sz : (pss.getD j []).length < sizeLine)
    (h : ∀ H2, Sx B Hs σ H2 Γ → Nst B Hs H2 L as (pss.set j (pss.getD j [] ++ [.int i])) → D.nx σ H2) :
    tsW X (.Expr (.Call (.Attribute (.Subscript (.Name xP p3) (.Name xp p4) sp) "append" ap) [.Name xa p5] [] callp) ep) D σ H := by
  obtain ⟨⟨d1, d2⟩, ⟨d3, d4⟩, d5, d6⟩ := hd
  have jl2 : j < as.length := by rw [Ns.len]; exact jl
  have ea : as[j]? = some as[j] := List.getElem?_eq_getElem jl2
  have ep' : pss[j]? = some (pss.getD j []) := by rw [List.getD_eq_getElem?_getD, List.getElem?_eq_getElem jl] <;> rfl
  obtain ⟨vs, hv, dv⟩ := Ns.inn j _ _ ea ep'
  obtain ⟨vj, ej, dj⟩ := S.dat hj
  cases dj
  obtain ⟨vi, ei, di⟩ := S.dat hi
  cases di
  have hm : as[j] ∈ L :: as := List.mem_cons_of_mem _ (List.getElem_mem jl2)
  obtain ⟨fa, na⟩ := Ns.off _ hm
  refine ps_of (ps_expr (pe_bm PySem.F.plainAttrs_list PySem.F.slot_list_append PySem.F.type_list_append mt_append (pe_ix ix_list (pe_var (idxS_ok hP) (sees_ok vP) d1 d2) (pe_var (idxS_ok hp) (sees_ok vp) d3 d4) hs) (pa_cons (pe_var (idxS_ok ha) (sees_ok va) d5 d6) pa_nil hst) hb hf hl hst rfl) hw) ?_
  refine ⟨_, S.val hL, _, ej, L, as.map V.ref, (j : Nat), .ref as[j], rfl, rfl, .inl (.inl Ns.top), ?_, .inl ⟨rfl, _, .inl (.inl hv)⟩, _, ei, ?_⟩
  · unfold atI ixN
    have l1 : (as.map V.ref).length = as.length := List.length_map _
    rw [l1, if_pos (by omega), if_pos (by omega)]
    show (as.map V.ref)[((j : Nat) : Int).toNat]? = _
    rw [Int.toNat_natCast, List.getElem?_map, ea] <;> rfl
  · refine ⟨_, vs, _, rfl, rfl, hv, by rw [dv.len]; exact sz, h _ (Sx_off S no hv fa na) (Ns.snoc ea ep' hv (.int i))⟩
/-- the list of lists is made -/
theorem gn_new {xP : Str} {py lp u : Pos} {elt t iter : Expr} {scope : Scope} {lpos spos : Pos} {ix : Nat} {rest : List Stmt} {own : List (Str × Nat)} {Γc : List Sl} {n0 : Nat} (c : Bod X k) (nd : N.Nodup) (eN : X.N = N) (hi : idxS X.N xP = some ix) (hx : X.env.scope.names.lookup xP = some .local) (eo : ownS N scope = own) (ok : blkC N X.env.scope scope own = true)
    (hsw : swapsWith (.ListComp (.List [] lp) [⟨t, iter, [], 0⟩] scope lpos) (some (.Name xP py)) spos.line X.env = pure true) (hs : ∀ x, foldedSetIterable iter X.env x = pure x) (hl : Nat.ble (ix + 1) Γc.length = true)
    (h : GI B X t iter Γ fun n f keep Γ1 => keep (clr Γ1 (own.map (·.2))) ∧ n < sizeLine ∧ NoOwn Γ1 ∧
      (∀ i, i < n → ∀ B', Blk X scope fun Y => GC B' Y (own.map (·.2)) t (f i) (clr Γ1 (own.map (·.2))) fun Γ2 => NoOwn Γ2 ∧ clr Γ2 (own.map (·.2)) = clr Γ1 (own.map (·.2))) ∧ n = n0 ∧ clr Γ1 (own.map (·.2)) = Γc)
    (g : ∀ (D : Ends) (Hs : Hp) (σ : L2.St) (H : Hp) (L : Addr) (as : List Addr), Real B D E Hs → Sx B Hs σ H (Γc.set ix (.v (.ref L))) → NoOwn (Γc.set ix (.v (.ref L))) → Nst B Hs H L as (List.replicate n0 []) → tssW X rest D σ H) :
    Gs B X (.Assign [.Name xP py] (.ListComp (.List [] lp) [⟨t, iter, [], 0⟩] scope lpos) spos :: rest) Γ E := fun D Hs σ H R S =>
  pss_of (pss_cons ps_W pss_W) (show tsW X _ { D with nx := tssW X rest D } σ H from ps_of (ps_setLc (wi := tiW X t iter) (g := tgB X scope t) (tt := tpB X scope []) (te := teB X scope (.List [] lp)) c.calm (eN ▸ nd) (idxS_ok hi) hx hsw pi_W (blkOk_by (eN.symm ▸ ok)) (fun s0 H0 C cl fp => ⟨fun pins s _ _ _ u _ I r h => tgE (h s0 H0 C cl fp) pins s u I r⟩) (fun s0 H0 C cl fp => ⟨fun pins s _ _ _ I h => tpE (h s0 H0 C cl fp) pins s I⟩) (fun s0 H0 C cl fp => ⟨fun pins s _ _ _ I h => teE (h s0 H0 C cl fp) pins s I⟩) hs)
    (nest_t (φ := fun n Γ1 => n = n0 ∧ Γ1 = Γc) h S fun n Γ1 L as Hs1 H1 ⟨e1, e2⟩ no s S1 Ns => by
      subst e1 e2
      exact g D Hs1 _ H1 L as (R.up s) (S1.put (fun _ _ z => nomatch z) (Nat.le_of_ble_eq_true hl) rfl) (no.set fun _ _ z => nomatch z) Ns))
/-- for xa, xp in ..: if xa > 0: xP[xp].append(xa) -/
theorem gn_for {xP xp xa : Str} {pa pp tp pa2 cp cmp p3 p4 p5 sp ap callp ep ifp fpos : Pos} {kt k0 : Nat} {iter : Expr} {rest : List Stmt} {ix ip ia n : Nat} {L : Addr} {as : List Addr} {par : Nat → Nat} {P : Nat → List (List PyData)} {D : Ends} {Hs : Hp} {σ : L2.St} {H : Hp}
    (c : Bod X k) (nd : N.Nodup) (eN : X.N = N) (hP : idxS X.N xP = some ix) (hp : idxS X.N xp = some ip) (ha : idxS X.N xa = some ia) (vP : Sees X.env.scope xP = true) (vp : Sees X.env.scope xp = true) (va : Sees X.env.scope xa = true)
    (lp : X.env.scope.names.lookup xp = some .local) (la : X.env.scope.names.lookup xa = some .local)
    (hd : ((xP == ("__debug__" : Str)) = false ∧ (xP == ("__classdict__" : Str)) = false) ∧ ((xp == ("__debug__" : Str)) = false ∧ (xp == ("__classdict__" : Str)) = false) ∧ (xa == ("__debug__" : Str)) = false ∧ (xa == ("__classdict__" : Str)) = false)
    (hs : PlainIx (Expr.Name xp p4)) (hb : attributeBase (.Subscript (.Name xP p3) (.Name xp p4) sp) "append" X.env (eval (.Subscript (.Name xP p3) (.Name xp p4) sp) X.env) = eval (.Subscript (.Name xP p3) (.Name xp p4) sp) X.env) (hf : Few X callp (.Name xa p5) []) (hl : (ap.endLine == callp.line) = true)
    (hst : starEach [.Name xa p5] X.env = (false, eval (.Name xa p5) X.env) :: starEach [] X.env) (hw : swapsWith (.Call (.Attribute (.Subscript (.Name xP p3) (.Name xp p4) sp) "append" ap) [.Name xa p5] [] callp) none ep.line X.env = pure false)
    (hi : ∀ x, foldedSetIterable iter X.env x = pure x) (hne : ix ≠ ip ∧ ix ≠ ia ∧ ip ≠ ia) (hll : Nat.ble (ix + 1) Γ.length = true ∧ Nat.ble (ip + 1) Γ.length = true ∧ Nat.ble (ia + 1) Γ.length = true)
    (hae : (assignEach [.Name xa pa, .Name xp pp] X.env).length = 2) (hae2 : (assignEach [.Name xa pa, .Name xp pp] X.env).findIdx? (·.1) = none)
    (hae3 : (assignEach [.Name xa pa, .Name xp pp] X.env).map (·.2) = [assign (.Name xa pa) X.env, assign (.Name xp pp) X.env]) (hae4 : (assignEach [.Name xp pp] X.env).map (·.2) = [assign (.Name xp pp) X.env])
    (R : ∀ (Hs' : Hp) (σ' : L2.St) (H' : Hp) (s1 s2 : Sl), Same Hs Hs' → Sx B Hs' σ' H' ((Γ.set ia s1).set ip s2) → NoOwn ((Γ.set ia s1).set ip s2) → Nst B Hs' H' L as (P n) → tssW X rest D σ' H')
    (S : Sx B Hs σ H Γ) (no : NoOwn Γ) (hL : Γ[ix]? = some (.v (.ref L))) (Ns : Nst B Hs H L as (P 0))
    (hit : ∀ B2 : Bas, Same B.fr B2.fr → Grow B.fr B.hs B2.hs → B2.T = B.T → GI B2 X (.Tuple [.Name xa pa, .Name xp pp] kt tp) iter Γ fun m f keep Γ1 => Γ1 = Γ ∧ m = n ∧ (∀ i, i < n → f i = .tuple [.int i, .int (par i)]) ∧ keep = fun _ => True)
    (h0 : P 1 = P 0) (hstep : ∀ i, 0 < i → i < n → par i < (P i).length ∧ ((P i).getD (par i) []).length < sizeLine ∧ P (i + 1) = (P i).set (par i) ((P i).getD (par i) [] ++ [.int i])) :
    tssW X (.For (.Tuple [.Name xa pa, .Name xp pp] kt tp) iter [.If (.Compare (.Name xa pa2) [.Gt] [.Constant (.int 0) k0 cp] cmp) [.Expr (.Call (.Attribute (.Subscript (.Name xP p3) (.Name xp p4) sp) "append" ap) [.Name xa p5] [] callp) ep] [] ifp] [] fpos :: rest) D σ H := by
  have Sa := Sx_all S no
  refine pss_of (pss_cons (ps_for c.po c.calm pi_W pg_W pss_W hi) pss_W) (hit ⟨H, Hs, B.T⟩ S.fr S.gr rfl Hs σ H _ Sa fun m f keep Γ1 J Hs1 H1 ⟨e1, e2, ef, ek⟩ s1 S1 ⟨G, Y, w, wg, wy⟩ => ?_)
  subst e1 e2 ek
  have back : ∀ {B1 : Bas} {Hs2 : Hp} {σ2 : L2.St} {H2 : Hp} {Γ2 : List Sl}, Same B.fr B1.fr → Grow B.fr B.hs B1.hs → B1.T = B.T → Sx B1 Hs2 σ2 H2 Γ2 → Sx B Hs2 σ2 H2 Γ2 := fun a b c S => Sx.under a b c S
  refine for_it w (fun i σ' H' => ∃ Hs' s1 s2, Same Hs1 Hs' ∧ Sx B Hs' σ' H' ((Γ1.set ia s1).set ip s2) ∧ NoOwn ((Γ1.set ia s1).set ip s2) ∧ Nst B Hs' H' L as (P i)) ?_ ?_ ?_ ?_
  · have qa : Γ1[ia]? = some (Γ1[ia]'(Nat.le_of_ble_eq_true hll.2.2)) := List.getElem?_eq_getElem _
    have qp : Γ1[ip]? = some (Γ1[ip]'(Nat.le_of_ble_eq_true hll.2.1)) := List.getElem?_eq_getElem _
    refine ⟨Hs1, Γ1[ia]'(Nat.le_of_ble_eq_true hll.2.2), Γ1[ip]'(Nat.le_of_ble_eq_true hll.2.1), Same.refl _, ?_, ?_, Ns.mono S1.fr S1.gr⟩
    · rw [List.set_getElem_self, List.set_getElem_self]
      exact back (B1 := ⟨H, Hs, B.T⟩) S.fr S.gr rfl S1
    · rw [List.set_getElem_self, List.set_getElem_self]
      exact no
  · rintro i σ' H' hi' ⟨Hs', t1, t2, s', S', no', N'⟩
    exact wg B Hs' σ' H' _ trivial s' S'
  · rintro i x σ' H' H'' hi' ⟨Hs', t1, t2, s', S', no', N'⟩ y
    have SB := Sx_all S' no'
    obtain ⟨Hs2, s2, S2, dv⟩ := wy _ i Hs' σ' H' _ x H'' hi' trivial s' SB y
    rw [ef i hi'] at dv
    have lenΓ : ∀ (a b : Sl), ((Γ1.set ia a).set ip b).length = Γ1.length := fun a b => by rw [List.length_set, List.length_set]
    have tg : GG ⟨H', Hs', B.T⟩ X (.Tuple [.Name xa pa, .Name xp pp] kt tp) (.tuple [.int i, .int (par i)]) ((Γ1.set ia t1).set ip t2) fun Γ' => Γ' = (Γ1.set ia (.d (.int i))).set ip (.d (.int (par i))) := by
      refine gg_tup c.calm (ggs_cons _ (gg_name (eN ▸ nd) ia (idxS_ok ha) (locB_ok (by unfold LocB; rw [la])) ⟨by rw [lenΓ]; exact Nat.le_of_ble_eq_true hll.2.2, rfl⟩ (.inr la)) (ggs_cons _ (gg_name (eN ▸ nd) ip (idxS_ok hp) (locB_ok (by unfold LocB; rw [lp])) ⟨by rw [List.length_set, lenΓ]; exact Nat.le_of_ble_eq_true hll.2.1, rfl⟩ (.inr lp)) (ggs_nil ?_) hae4) (hae3.trans (congrArg (List.cons (assign (.Name xa pa) X.env)) hae4.symm))) hae rfl hae2
      rw [List.set_comm _ _ hne.2.2, List.set_set, List.set_set]
    refine tg Hs2 σ' H'' x _ S2 dv fun Γ3 Hs3 σ3 H3 e3 s3 S3 => ?_
    subst e3
    have no3 : NoOwn ((Γ1.set ia (.d (.int i))).set ip (.d (.int (par i)))) := by
      refine NoOwn.set (NoOwn.set no ?_) ?_
      · intro a ds z
        cases z
      · intro a ds z
        cases z
    have S3b : Sx B Hs3 σ3 H3 ((Γ1.set ia (.d (.int i))).set ip (.d (.int (par i)))) := back (B1 := ⟨H', Hs', B.T⟩) S'.fr S'.gr rfl S3
    have N3 : Nst B Hs3 H3 L as (P i) := N'.mono S3.fr S3.gr
    have gL : ((Γ1.set ia (.d (.int i))).set ip (.d (.int (par i))))[ix]? = some (.v (.ref L)) := by
      rw [List.getElem?_set_ne (Ne.symm hne.1), List.getElem?_set_ne (Ne.symm hne.2.1)]
      exact hL
    have gA : ((Γ1.set ia (.d (.int i))).set ip (.d (.int (par i))))[ia]? = some (.d (.int i)) := by
      rw [List.getElem?_set_ne hne.2.2, List.getElem?_set_self (Nat.le_of_ble_eq_true hll.2.2)]
    have gP : ((Γ1.set ia (.d (.int i))).set ip (.d (.int (par i))))[ip]? = some (.d (.int (par i))) := by
      rw [List.getElem?_set_self (by rw [List.length_set]; exact Nat.le_of_ble_eq_true hll.2.1)]
    have sAll : Same Hs1 Hs3 := s'.trans (s2.trans s3)
    have tst : GT ⟨H3, Hs3, B.T⟩ X (.Compare (.Name xa pa2) [.Gt] [.Constant (.int 0) k0 cp] cmp) ((Γ1.set ia (.d (.int i))).set ip (.d (.int (par i)))) fun t Γ' => t = decide (0 < i) ∧ Γ' = (Γ1.set ia (.d (.int i))).set ip (.d (.int (par i))) :=
      gt_gt (name_e ha gA va (gb_of (ge_int (ord_i ⟨by
        show decide ((0 : Int) < (i : Int)) = decide (0 < i)
        exact decide_eq_decide.mpr (by omega), rfl⟩))) hd.2.2.1 hd.2.2.2)
    refine pss_of (pss_one (ps_if pt_W pss_W pss_W)) (tst Hs3 σ3 H3 _ (Sx_all S3b no3) fun b Γ4 Hs4 H4 ⟨eb, e4⟩ s4 S4 => ?_)
    subst e4
    have S4b : Sx B Hs4 σ3 H4 ((Γ1.set ia (.d (.int i))).set ip (.d (.int (par i)))) := back (B1 := ⟨H3, Hs3, B.T⟩) S3b.fr S3b.gr rfl S4
    have N4 : Nst B Hs4 H4 L as (P i) := N3.mono S4.fr S4.gr
    by_cases z : 0 < i
    · rw [eb, decide_eq_true z]
      obtain ⟨h1, h2, h3⟩ := hstep i z hi'
      refine iteT (pss_of (pss_one ps_W) (nst_app hP hp ha vP vp va hd hs hb hf hl hst hw S4b no3 N4 gL gP gA h1 h2 fun H5 S5 N5 => ?_))
      exact ⟨Hs4, _, _, sAll.trans s4, S5, no3, h3 ▸ N5⟩
    · rw [eb, decide_eq_false z]
      have e0 : i = 0 := by omega
      subst e0
      exact iteF (pss_of pss_nil ⟨Hs4, _, _, sAll.trans s4, S4b, no3, by rw [h0]; exact N4⟩)
  · rintro σ' H' ⟨Hs', t1, t2, s', S', no', N'⟩
    exact R Hs' σ' H' t1 t2 (s1.trans s') S' no' N'
/-- return xP -/
theorem gn_ret {xP : Str} {p6 pos : Pos} {ix : Nat} {L : Addr} {as : List Addr} {pss : List (List PyData)} {D : Ends} {Hs : Hp} {σ : L2.St} {H : Hp} (hP : idxS X.N xP = some ix) (vP : Sees X.env.scope xP = true) (hd : (xP == ("__debug__" : Str)) = false) (hcd : (xP == ("__classdict__" : Str)) = false)
    (R : Real B D E Hs) (S : Sx B Hs σ H Γ) (no : NoOwn Γ) (hL : Γ[ix]? = some (.v (.ref L))) (Ns : Nst B Hs H L as pss) (h : E.rt (.list (pss.map .list)) Γ) :
    tssW X [.Return (some (.Name xP p6)) pos] D σ H := by
  obtain ⟨Hs', s, S', dv⟩ := Ns.give S no
  refine pss_of (pss_one (ps_ret (pe_var (idxS_ok hP) (sees_ok vP) hd hcd))) ⟨_, S.val hL, R.rt _ Γ _ Hs' σ H h s S' dv⟩
end
end Py
/-! A field of an instance that is being made, read while it is made. -/
namespace Py
open PySem PySem.Spec PyProof.Rows L2 Tc Px
variable [Px.Fld]
section
variable {F h0 : Hp} {T : List (Addr × Str)} {X : Cx} {a C dx : Addr} {st : Stmt} {sts : List Stmt} {fs : List (PyData × PyData)} {Γ : List Sl} {fin : List (PyData × PyData) → Prop}
theorem gi_fldN {x f : Str} {i : Nat} {px ap pos : Pos} {e : Expr} (cl : Cls X.K C) (no : NoAttr X.K C f) (hl : fs.length < 1000) (hN : idxS X.N x = some i) (hv : Sees X.env.scope x = true) (hΓ : Γ[i]? = some (.v (.ref a)))
    (h : ∀ gs hs, DvNm hs gs fs → GE ⟨upd F a (.ins C dx gs), hs, T⟩ X e Γ fun d Γ1 => Γ1 = Γ ∧ GI0 F h0 T X a C dx sts (putD f d fs) Γ fin)
    (hd : (x == ("__debug__" : Str)) = false) (hcd : (x == ("__classdict__" : Str)) = false) (hs1 : swapsWith e (some (.Attribute (.Name x px) f ap)) pos.line X.env = pure false) : GI0 F h0 T X a C dx (.Assign [.Attribute (.Name x px) f ap] e pos :: sts) fs Γ fin := by
  intro hs Hs gs σ H D fa ha g nm S k
  have up : ∀ b, F b ≠ none → upd F a (.ins C dx gs) b ≠ none := fun b hb => by
    by_cases z : b = a
    · rw [z, upd_same]
      exact fun z => nomatch z
    · rw [upd_ne z]
      exact hb
  have hHa : Hs a = none := S.gr.off a ha (by show upd F a _ a ≠ none; rw [upd_same]; exact fun z => nomatch z)
  have g2 : Grow F h0 Hs := g.trans (S.gr.mono up)
  refine pss_of (pss_cons (u := tssW X sts) ps_W pss_W) (show tsW X _ { D with nx := tssW X sts D } σ H from ps_of (ps_fld (pe_var (idxS_ok hN) (sees_ok hv) hd hcd) pe_W hs1) ?_)
  refine show teW X e σ H _ from h gs Hs nm Hs σ H _ (Py.Sx.re S) fun d Γ1 v Hs1 H1 ⟨eΓ, p⟩ s1 S1 q => ?_
  subst eΓ
  obtain ⟨S2, hb, nb, ab⟩ := S1.loose g2 fa hHa
  refine ⟨.ref a, S.val hΓ, a, C, dx, gs, rfl, hb, cl, no, by rw [dvn_len nm]; exact hl, ?_⟩
  have S3 := S2.beside (o := .ins C dx (putF f v gs)) hb rfl nb fa ab
  have S4 := S3.hold upd_same nb fa ab
  exact p Hs1 Hs1 (putF f v gs) σ _ D fa nb S2.gr (dvn_put q (nm.mono s1)) S4 k
end
section
variable {B : Bas} {X : Cx} {Γ : List Sl} {pos : Pos}
theorem ge_self {x f : Str} {i : Nat} {px : Pos} {a C dx : Addr} {gs : List (Str × V)} {fs : List (PyData × PyData)} {d : PyData} {φ : PyData → List Sl → Prop} (cl : Cls X.K C) (no : NoAttr X.K C f) (hN : idxS X.N x = some i) (hv : Sees X.env.scope x = true) (hΓ : Γ[i]? = some (.v (.ref a)))
    (hb : B.fr a = some (.ins C dx gs)) (nm : DvNm B.hs gs fs) (hf : fldD f fs = some d) (h : φ d Γ) (hd : (x == ("__debug__" : Str)) = false) (hcd : (x == ("__classdict__" : Str)) = false)
    (hab : attributeBase (.Name x px) f X.env (eval (.Name x px) X.env) = eval (.Name x px) X.env) : GE B X (.Attribute (.Name x px) f pos) Γ φ := fun Hs σ H Q S g => by
  obtain ⟨u, l2, q2⟩ := dvn_look nm hf
  exact pe_of (pe_fld (pe_var (idxS_ok hN) (sees_ok hv) hd hcd) hab) ⟨_, S.val hΓ, a, C, dx, gs, u, rfl, S.fr _ _ hb, cl, no, l2, g d Γ u Hs H h (Same.refl _) S (q2.mono S.gr.same)⟩
end
end Py
/-! Tuples that are known to have no attributes of their own: made by tuple(list); their method index. -/
namespace Py
open PySem PySem.Spec PyProof.Rows L2 Tc Px
variable [Px.Fld]
theorem call_tupleC {X : Cx} : L2.CallR X (.type "tuple") (fun xs H Q => ∃ p ys, xs = [.ref p] ∧ SqL X.K H p ys ∧ ∀ (l : Addr) (o : Obj), H l = none → o.dict = none → Q (.ref l) (upd H l (.frz o (.tup ys)))) := by
  intro pins s σ H xs us Q I r h
  obtain ⟨p, ys, rfl, hq, q⟩ := h
  obtain ⟨u, rfl, rx⟩ := vals1 r
  cases rx
  obtain ⟨its, r', pl, hz⟩ := I.list hq
  have hlen := r'.length
  refine call_tuple_list pl.isList (fun h' kp => ?_) (by simp only [List.size_toArray] <;> omega)
  have I1 : Inv X pins σ H { s with heap := h' } := I.kept (t' := s.toks) kp
  have I2 : Inv X pins σ (upd H h'.objs.size (.frz { cls := .type "tuple", data := .seq its.toArray } (.tup ys))) { s with heap := h'.push { cls := .type "tuple", data := .seq its.toArray } } :=
    I1.laid (t' := s.toks) (fun b o e => Heap.get?_push_of_some _ e) (Nat.le_refl _) (show ObjOk X.prog X.w _ _ _ (.frz _ (.tup ys)) from ⟨Heap.get?_push_size _ rfl, hz, its, r', IsTup.new _ _⟩)
  exact ⟨.ref h'.objs.size, _, I2, rfl, q _ _ (I1.hok.fresh (Nat.le_refl _)) rfl⟩
theorem clean_of {H : Hp} {v : V} {ds : List PyData} (q : Dv H v (clnD ds)) : ∃ (a : Addr) (o : Obj) (xs : List V), v = .ref a ∧ H a = some (.frz o (.tup xs)) ∧ o.dict = none ∧ DvAll H xs ds := by
  have gen : ∀ {d : PyData}, Dv H v d → d = clnD ds → ∃ (a : Addr) (o : Obj) (xs : List V), v = .ref a ∧ H a = some (.frz o (.tup xs)) ∧ o.dict = none ∧ DvAll H xs ds := by
    intro d q e
    cases q with
    | dct h r =>
      cases r with
      | nil => cases e
      | cons a r =>
        rename_i k _ _ _ _
        cases k <;> cases e
    | ins h r => cases e
    | cln h hd r =>
      cases e
      exact ⟨_, _, _, rfl, h, hd, r⟩
    | _ => cases e
  exact gen q rfl
section
variable {B : Bas} {X : Cx} {Γ : List Sl} {pos ap : Pos} {a b : Expr} {φ : PyData → List Sl → Prop}
/-- .. is a tuple like any other -/
theorem ge_uncl (h : GE B X a Γ fun d Γ1 => ∃ ds, d = clnD ds ∧ φ (.tuple ds) Γ1) : GE B X a Γ φ := fun Hs σ H Q S g => h Hs σ H Q S fun d Γ1 v Hs1 H1 ⟨ds, e, p⟩ s S1 q => by
  subst e
  obtain ⟨c, o, xs, rfl, h1, h2, h3⟩ := clean_of q
  exact g (.tuple ds) Γ1 _ Hs1 H1 p s S1 (.tup (.inr ⟨o, h1⟩) h3)
theorem ge_tupC {x : Str} {p : Pos} (hx : x = "tuple") (hg : Gl X x) (hm : X.mg x = none) (h : GQ B X true a Γ fun ds Γ1 => φ (clnD ds) Γ1) (he : starEach [a] X.env = (false, eval a X.env) :: starEach [] X.env) : GE B X (.Call (.Name x p) [a] [] pos) Γ φ := by
  subst hx
  exact fun Hs σ H Q S g => pe_of (pe_callTy call_tupleC hg hm (by decide +kernel) (pa_cons pe_W pa_nil he) (he := he)) (show teW X a σ H _ from h Hs σ H _ S fun ds Γ1 b vs Hs1 H1 p s S1 hq dv =>
    ⟨b, vs, rfl, hq, fun l o hl ho => by
      obtain ⟨k, S2⟩ := S1.new (o := .frz o (.tup vs)) hl
      exact g _ Γ1 (.ref l) _ _ p (s.trans k) S2 (.cln upd_same ho (dv.mono k))⟩)
/-- a method of such a tuple -/
def tCM (r : V → List V → Hp → VK → Prop) (to : TE) (t : TA) : TE := fun σ H Q => to σ H fun x H1 => (∃ p o xs, x = .ref p ∧ H1 p = some (.frz o (.tup xs)) ∧ o.dict = none) ∧ t σ H1 fun xs H2 => r x xs H2 Q
theorem pe_cm {o e : Expr} {es : List Expr} {to : TE} {t : TA} {name : Str} {apos cpos : Pos} {id : String} {r : V → List V → Hp → VK → Prop} (slot : Slot "tuple" name id) (hty : typeOf (.builtin id) = pure (.type "method_descriptor")) (hm : MtR X id r) (ho : PE X o to) (ha : PA X (e :: es) t)
    (hbase : attributeBase o name X.env (eval o X.env) = eval o X.env)
    (hfew : ((backTo cpos (starEach (e :: es) X.env)).all (fun x => !x.1) && (backToKw cpos (keywordEach [] X.env)).all (fun x => x.1.isSome)
      && decide ((e :: es).length + ([] : List Keyword).length + (if ([] : List Keyword).isEmpty then 0 else 1) < 30)) = true)
    (hline : (apos.endLine == cpos.line) = true) (hs : starEach (e :: es) X.env = (false, eval e X.env) :: starEach es X.env) (hplain : (backTo cpos (starEach es X.env)).any (·.1) = false) :
    PE X (.Call (.Attribute o name apos) (e :: es) [] cpos) (tCM r to t) := by
  refine ⟨fun pins s σ H Q I h => ?_⟩
  refine wpAny_Call_method_late hbase hfew hline rfl (thn (ho.run pins s σ H _ I h) fun v s1 ⟨x, H1, I1, r1, ⟨p, ob, xs, ex, hp, hd⟩, q1⟩ => ?_)
  subst ex
  obtain ⟨e1, _, _, _, ⟨o2, e2, c2, _⟩⟩ := I1.hok p _ hp
  rw [e1] at e2
  cases e2
  cases r1
  refine ⟨"tuple", id, PySem.F.plainAttrs_tuple, slot, hty, ⟨ob, e1, c2⟩, fun a e => ?_, ?_⟩
  · cases e
    exact ⟨ob, e1, hd⟩
  have hA := ha.run cpos pins s1 σ H1 _ I1 q1
  rw [hs] at hA ⊢
  refine Calls.callWith_builtin (by show (false || (backTo cpos (starEach es X.env)).any (·.1)) = false; rw [hplain] <;> rfl) (Calls.evalArgs_plain ?_)
  exact thn hA fun us s2 ⟨vs, H2, I2, r2, q2⟩ => hm pins s2 σ H2 (.ref p) vs (.ref p) us Q I2 rfl r2 q2
theorem ge_tindex (h : GE B X a Γ fun d Γ1 => ∃ l : List Str, d = clnD (l.map .str) ∧ GE B X b Γ1 fun d2 Γ2 => ∃ (y : Str) (n : Nat), d2 = .str y ∧ l[n]? = some y ∧ (∀ m, m < n → l[m]? ≠ some y) ∧ φ (.int (n : Nat)) Γ2)
    (hb : attributeBase a "index" X.env (eval a X.env) = eval a X.env) (hf : Few X pos b []) (hl : (ap.endLine == pos.line) = true) (hs : starEach [b] X.env = (false, eval b X.env) :: starEach [] X.env) : GE B X (.Call (.Attribute a "index" ap) [b] [] pos) Γ φ := fun Hs σ H Q S g =>
  pe_of (pe_cm PySem.F.slot_tuple_index PySem.F.type_tuple_index mt_tup_index pe_W (pa_cons pe_W pa_nil hs) hb hf hl hs rfl) (show teW X a σ H _ from h Hs σ H _ S fun d Γ1 v Hs1 H1 ⟨l, e, p⟩ s1 S1 q1 => by
    subst e
    obtain ⟨c, o, xs, rfl, h1, h2, h3⟩ := clean_of q1
    have ev := dvs_strs h3
    subst ev
    refine ⟨⟨c, o, _, rfl, S1.sub _ _ h1, h2⟩, show teW X b σ H1 _ from p Hs1 σ H1 _ S1 fun d2 Γ2 w Hs2 H2 ⟨y, n, e2, hi, hm, p2⟩ s2 S2 q2 => ?_⟩
    subst e2
    cases q2
    exact ⟨c, l, y, n, rfl, rfl, rdT (K := X.K) (rd_up S2.sub (rd_up s2 (.inr ⟨o, h1⟩))), hi, hm, g _ Γ2 _ Hs2 H2 p2 (s1.trans s2) S2 (.int _)⟩)
end
end Py
/-! Counts of a tree of areas: what each area can have. -/
namespace PtA
abbrev St := Nat → Int × Int
def sm (l : List Nat) (c : Nat → Int) : Int := (l.map c).sum
theorem sm_nil {c : Nat → Int} : sm [] c = 0 := rfl
theorem sm_cons {p : Nat} {l : List Nat} {c : Nat → Int} : sm (p :: l) c = c p + sm l c := by simp [sm]
theorem sm_congr {l : List Nat} {c d : Nat → Int} (h : ∀ p ∈ l, c p = d p) : sm l c = sm l d := by
  unfold sm
  rw [List.map_congr_left h]
theorem sm_le : ∀ {l : List Nat} {c d : Nat → Int}, (∀ p ∈ l, c p ≤ d p) → sm l c ≤ sm l d
  | [], _, _, _ => Int.le_refl _
  | p :: l, c, d, h => by
    rw [sm_cons, sm_cons]
    have := h p List.mem_cons_self
    have := sm_le (l := l) fun q hq => h q (List.mem_cons_of_mem _ hq)
    omega
theorem choose : ∀ {l : List Nat} {lo hi : Nat → Int} {v : Int}, l.Nodup → (∀ p ∈ l, lo p ≤ hi p) → sm l lo ≤ v → v ≤ sm l hi → ∃ c : Nat → Int, (∀ p ∈ l, lo p ≤ c p ∧ c p ≤ hi p) ∧ sm l c = v
  | [], lo, hi, v, _, _, h1, h2 => ⟨lo, fun _ h => (nomatch h), by rw [sm_nil] at *; omega⟩
  | p :: l, lo, hi, v, nd, hh, h1, h2 => by
    rw [sm_cons] at h1 h2
    obtain ⟨np, nd⟩ := List.nodup_cons.mp nd
    have hl : ∀ q ∈ l, lo q ≤ hi q := fun q hq => hh q (List.mem_cons_of_mem _ hq)
    have hp := hh p List.mem_cons_self
    have hs := sm_le hl
    let x := max (lo p) (v - sm l hi)
    have x1 : lo p ≤ x := Int.le_max_left _ _
    have x2 : v - sm l hi ≤ x := Int.le_max_right _ _
    have x3 : x ≤ hi p := by
      show max (lo p) (v - sm l hi) ≤ hi p
      omega
    have x4 : x ≤ v - sm l lo := by
      show max (lo p) (v - sm l hi) ≤ v - sm l lo
      omega
    obtain ⟨c, h3, h4⟩ := choose (l := l) (lo := lo) (hi := hi) (v := v - x) nd hl (by omega) (by omega)
    have ec : ∀ q ∈ l, (fun q => if q = p then x else c q) q = c q := fun q hq => by
      have : q ≠ p := fun z => np (z ▸ hq)
      simp [this]
    refine ⟨fun q => if q = p then x else c q, fun q hq => ?_, ?_⟩
    · rcases List.mem_cons.mp hq with rfl | hq
      · simp [x1, x3]
      · rw [ec q hq]
        exact h3 q hq
    · rw [sm_cons, sm_congr ec, h4]
      simp
      omega
theorem sm_split : ∀ {l : List Nat} {k : Nat} (c : Nat → Int), l.Nodup → k ∈ l → sm l c = c k + sm (l.filter fun q => q ≠ k) c
  | p :: l, k, c, nd, hk => by
    obtain ⟨np, nd⟩ := List.nodup_cons.mp nd
    rw [sm_cons]
    by_cases e : p = k
    · subst e
      rw [List.filter_cons_of_neg (by simp)]
      have : l.filter (fun q => q ≠ p) = l := List.filter_eq_self.mpr fun q hq => by
        have : q ≠ p := fun z => np (z ▸ hq)
        simp [this]
      rw [this]
    · rw [List.filter_cons_of_pos (by simp [e]), sm_cons]
      have hk : k ∈ l := by
        rcases List.mem_cons.mp hk with z | z
        · exact absurd z.symm e
        · exact z
      rw [sm_split c nd hk]
      omega
/-- with the number of one of them given -/
theorem choose2 {l : List Nat} {lo hi : Nat → Int} {v x : Int} {k : Nat} (nd : l.Nodup) (hk : k ∈ l) (hh : ∀ p ∈ l, lo p ≤ hi p) (x1 : lo k ≤ x) (x2 : x ≤ hi k) (h1 : sm l lo - lo k ≤ v - x) (h2 : v - x ≤ sm l hi - hi k) :
    ∃ c : Nat → Int, (∀ p ∈ l, lo p ≤ c p ∧ c p ≤ hi p) ∧ sm l c = v ∧ c k = x := by
  have e1 := sm_split lo nd hk
  have e2 := sm_split hi nd hk
  obtain ⟨c, h3, h4⟩ := choose (l := l.filter fun q => q ≠ k) (lo := lo) (hi := hi) (v := v - x) (nd.filter _) (fun p hp => hh p (List.mem_filter.mp hp).1) (by omega) (by omega)
  have ec : ∀ q ∈ l.filter (fun q => q ≠ k), (fun q => if q = k then x else c q) q = c q := fun q hq => by
    have : q ≠ k := by simpa using (List.mem_filter.mp hq).2
    simp [this]
  refine ⟨fun q => if q = k then x else c q, fun q hq => ?_, ?_, by simp⟩
  · by_cases e : q = k
    · simp [e, x1, x2]
    · have hm : q ∈ l.filter (fun q => q ≠ k) := List.mem_filter.mpr ⟨hq, by simp [e]⟩
      rw [ec q hm]
      exact h3 q hm
  · rw [sm_split _ nd hk, sm_congr ec, h4]
    simp
    omega
/-- the tree: for each line behind the first one, in which it lies; for each line, the lines that lie in it -/
structure Tree (n : Nat) (pa : Nat → Nat) (ps : Nat → List Nat) : Prop where
  pos : 0 < n
  lt : ∀ k, 0 < k → k < n → pa k < k
  mem : ∀ at_ p, p ∈ ps at_ ↔ (0 < p ∧ p < n) ∧ pa p = at_
  nd : ∀ at_, (ps at_).Nodup
structure Count (n : Nat) (ps : Nat → List Nat) (str : St) (c : Nat → Int) : Prop where
  lie : ∀ k, k < n → (str k).1 ≤ c k ∧ c k ≤ (str k).2
  sum : ∀ k, k < n → ps k ≠ [] → c k = sm (ps k) c
/-- what each area can have by what lies in it -/
structure IsUp (n : Nat) (ps : Nat → List Nat) (str U : St) : Prop where
  leaf : ∀ k, k < n → ps k = [] → U k = str k
  inner : ∀ k, k < n → ps k ≠ [] → U k = (max (str k).1 (sm (ps k) fun p => (U p).1), min (str k).2 (sm (ps k) fun p => (U p).2))
  ok : ∀ k, k < n → (U k).1 ≤ (U k).2
variable {n : Nat} {pa : Nat → Nat} {ps : Nat → List Nat} {str U R : St} {c : Nat → Int}
theorem part_gt (T : Tree n pa ps) {at_ p : Nat} (h : p ∈ ps at_) : at_ < p ∧ p < n := by
  obtain ⟨⟨h1, h2⟩, e⟩ := (T.mem at_ p).mp h
  have := T.lt p h1 h2
  omega
theorem in_up (T : Tree n pa ps) (u : IsUp n ps str U) (C : Count n ps str c) : ∀ m k, n ≤ k + m → k < n → (U k).1 ≤ c k ∧ c k ≤ (U k).2
  | 0, k, h, hk => by omega
  | m + 1, k, h, hk => by
    have l := C.lie k hk
    by_cases e : ps k = []
    · rw [u.leaf k hk e]
      exact l
    · rw [u.inner k hk e, C.sum k hk e]
      have ih : ∀ p ∈ ps k, (U p).1 ≤ c p ∧ c p ≤ (U p).2 := fun p hp => by
        have := part_gt T hp
        exact in_up T u C m p (by omega) this.2
      have h1 := sm_le (l := ps k) fun p hp => (ih p hp).1
      have h2 := sm_le (l := ps k) fun p hp => (ih p hp).2
      rw [C.sum k hk e] at l
      constructor
      · show max _ _ ≤ _
        omega
      · show _ ≤ min _ _
        omega
theorem count_up (T : Tree n pa ps) (u : IsUp n ps str U) (C : Count n ps str c) {k : Nat} (hk : k < n) : (U k).1 ≤ c k ∧ c k ≤ (U k).2 := in_up T u C n k (by omega) hk
/-- what is dealt out to all lines that lie in the first m ones -/
structure Deal (n : Nat) (pa : Nat → Nat) (ps : Nat → List Nat) (U : St) (m : Nat) (c : Nat → Int) : Prop where
  up : ∀ j, j < n → (j = 0 ∨ pa j < m) → (U j).1 ≤ c j ∧ c j ≤ (U j).2
  sum : ∀ k, k < m → k < n → ps k ≠ [] → c k = sm (ps k) c
theorem Deal.count (T : Tree n pa ps) (u : IsUp n ps str U) (D : Deal n pa ps U n c) : Count n ps str c := ⟨fun k hk => by
  have := D.up k hk (by
    by_cases z : k = 0
    · exact .inl z
    · have := T.lt k (by omega) hk
      exact .inr (by omega))
  by_cases e : ps k = []
  · rw [u.leaf k hk e] at this
    exact this
  · rw [u.inner k hk e] at this
    have h1 : max _ _ ≤ _ := this.1
    have h2 : _ ≤ min _ _ := this.2
    omega, fun k hk e => D.sum k hk hk e⟩
theorem Count.deal (T : Tree n pa ps) (u : IsUp n ps str U) (C : Count n ps str c) (m : Nat) : Deal n pa ps U m c := ⟨fun j hj _ => count_up T u C hj, fun k _ hk e => C.sum k hk e⟩
/-- one more line is dealt out -/
theorem Deal.step (T : Tree n pa ps) {m : Nat} {c1 : Nat → Int} (D : Deal n pa ps U m c) (h : ∀ p ∈ ps m, (U p).1 ≤ c1 p ∧ c1 p ≤ (U p).2) (s : m < n → ps m ≠ [] → sm (ps m) c1 = c m) :
    Deal n pa ps U (m + 1) (fun j => if j ∈ ps m then c1 j else c j) := by
  have nm : ∀ k, k ≤ m → k ∉ ps m := fun k hk z => by have := part_gt T z; omega
  have other : ∀ k, k < m → ∀ p ∈ ps k, p ∉ ps m := fun k hk p hp z => by
    have e1 := ((T.mem k p).mp hp).2
    have e2 := ((T.mem m p).mp z).2
    omega
  refine ⟨fun j hj hz => ?_, fun k hk hn e => ?_⟩
  · by_cases z : j ∈ ps m
    · simp only [z, if_true]
      exact h j z
    · simp only [z, if_false]
      refine D.up j hj ?_
      rcases hz with rfl | hz
      · exact .inl rfl
      · by_cases q : j = 0
        · exact .inl q
        · refine .inr ?_
          have : pa j ≠ m := fun w => z ((T.mem m j).mpr ⟨⟨by omega, hj⟩, w⟩)
          omega
  · simp only [nm k (by omega), if_false]
    by_cases q : k = m
    · subst q
      rw [← s hn e]
      exact sm_congr fun p hp => by simp [hp]
    · rw [D.sum k (by omega) hn e]
      exact sm_congr fun p hp => by simp [other k (by omega) p hp]
theorem Deal.all (T : Tree n pa ps) (u : IsUp n ps str U) : ∀ (m : Nat) {i : Nat} {c : Nat → Int}, n ≤ i + m → i ≤ n → Deal n pa ps U i c → ∃ c', (∀ j, j < n → (j = 0 ∨ pa j < i) → c' j = c j) ∧ Deal n pa ps U n c'
  | 0, i, c, h, hi, D => by
    have : i = n := by omega
    subst this
    exact ⟨c, fun _ _ _ => rfl, D⟩
  | m + 1, i, c, h, hi, D => by
    by_cases z : i = n
    · subst z
      exact ⟨c, fun _ _ _ => rfl, D⟩
    have hi : i < n := by omega
    have uc : ∀ p ∈ ps i, (U p).1 ≤ (U p).2 := fun p hp => u.ok p (part_gt T hp).2
    have ci : (U i).1 ≤ c i ∧ c i ≤ (U i).2 := D.up i hi (by
      by_cases z : i = 0
      · exact .inl z
      · have := T.lt i (by omega) hi
        exact .inr (by omega))
    obtain ⟨c1, h1, h2⟩ : ∃ c1 : Nat → Int, (∀ p ∈ ps i, (U p).1 ≤ c1 p ∧ c1 p ≤ (U p).2) ∧ (ps i ≠ [] → sm (ps i) c1 = c i) := by
      by_cases e : ps i = []
      · exact ⟨c, fun p hp => (by rw [e] at hp; cases hp), fun z => absurd e z⟩
      · rw [u.inner i hi e] at ci
        have q1 : max _ _ ≤ _ := ci.1
        have q2 : _ ≤ min _ _ := ci.2
        obtain ⟨c1, h1, h2⟩ := choose (v := c i) (T.nd i) uc (by omega) (by omega)
        exact ⟨c1, h1, fun _ => h2⟩
    obtain ⟨c', h3, h4⟩ := Deal.all T u m (i := i + 1) (by omega) (by omega) (D.step T h1 fun _ e => h2 e)
    refine ⟨c', fun j hj hz => ?_, h4⟩
    rw [h3 j hj (by rcases hz with z | z; exact .inl z; exact .inr (by omega))]
    have : j ∉ ps i := fun z => by
      have e1 := ((T.mem i j).mp z)
      rcases hz with z | z <;> omega
    simp [this]
/-- what each area can have in all counts -/
structure IsDown (n : Nat) (pa : Nat → Nat) (ps : Nat → List Nat) (U R : St) : Prop where
  top : R 0 = U 0
  rest : ∀ k, 0 < k → k < n → R k = (max (U k).1 ((R (pa k)).1 - (sm (ps (pa k)) (fun p => (U p).2) - (U k).2)), min (U k).2 ((R (pa k)).2 - (sm (ps (pa k)) (fun p => (U p).1) - (U k).1)))
theorem exact (T : Tree n pa ps) (u : IsUp n ps str U) (d : IsDown n pa ps U R) : ∀ (m k : Nat), k < m → k < n → (R k).1 ≤ (R k).2 ∧ ∀ x, ((R k).1 ≤ x ∧ x ≤ (R k).2) ↔ ∃ c, Count n ps str c ∧ c k = x
  | 0, k, h, _ => absurd h (Nat.not_lt_zero _)
  | m + 1, 0, _, hk => by
    rw [d.top]
    refine ⟨u.ok 0 hk, fun x => ⟨fun h => ?_, fun ⟨c, C, e⟩ => e ▸ count_up T u C hk⟩⟩
    obtain ⟨c', h1, h2⟩ := Deal.all T u n (i := 0) (c := fun _ => x) (by omega) (by omega) ⟨fun j hj hz => by
      rcases hz with rfl | hz
      · exact h
      · exact absurd hz (Nat.not_lt_zero _), fun k hk => absurd hk (Nat.not_lt_zero _)⟩
    exact ⟨c', h2.count T u, h1 0 hk (.inl rfl)⟩
  | m + 1, k + 1, hm, hk => by
    have lt := T.lt (k + 1) (by omega) hk
    generalize ea : pa (k + 1) = a at lt
    obtain ⟨ne, ih⟩ := exact T u d m a (by omega) (by omega)
    have hmem : k + 1 ∈ ps a := (T.mem a (k + 1)).mpr ⟨⟨by omega, hk⟩, ea⟩
    have nn : ps a ≠ [] := fun z => by rw [z] at hmem; cases hmem
    have hr := d.rest (k + 1) (by omega) hk
    rw [ea] at hr
    have uc : ∀ p ∈ ps a, (U p).1 ≤ (U p).2 := fun p hp => u.ok p (part_gt T hp).2
    have uk := u.ok (k + 1) hk
    -- a count has its number there
    have fw : ∀ c, Count n ps str c → (R (k + 1)).1 ≤ c (k + 1) ∧ c (k + 1) ≤ (R (k + 1)).2 := fun c C => by
      have q1 := count_up T u C hk
      have q2 := (ih (c a)).mpr ⟨c, C, rfl⟩
      have q3 := C.sum a (by omega) nn
      have s0 := sm_split c (T.nd a) hmem
      have s1 := sm_split (fun p => (U p).1) (T.nd a) hmem
      have s2 := sm_split (fun p => (U p).2) (T.nd a) hmem
      have l1 := sm_le (l := (ps a).filter fun q => q ≠ k + 1) (c := fun p => (U p).1) (d := c) fun p hp => (count_up T u C (part_gt T (List.mem_filter.mp hp).1).2).1
      have l2 := sm_le (l := (ps a).filter fun q => q ≠ k + 1) (c := c) (d := fun p => (U p).2) fun p hp => (count_up T u C (part_gt T (List.mem_filter.mp hp).1).2).2
      rw [hr]
      constructor
      · show max _ _ ≤ _
        omega
      · show _ ≤ min _ _
        omega
    have any : ∃ c, Count n ps str c := by
      obtain ⟨c, C, _⟩ := (ih (R a).1).mp ⟨Int.le_refl _, ne⟩
      exact ⟨c, C⟩
    refine ⟨?_, fun x => ⟨fun h => ?_, fun ⟨c, C, e⟩ => e ▸ fw c C⟩⟩
    · obtain ⟨c, C⟩ := any
      have := fw c C
      omega
    · rw [hr] at h
      have h1 : max _ _ ≤ x := h.1
      have h2 : x ≤ min _ _ := h.2
      have s1 := sm_split (fun p => (U p).1) (T.nd a) hmem
      have s2 := sm_split (fun p => (U p).2) (T.nd a) hmem
      have l1 := sm_le (l := (ps a).filter fun q => q ≠ k + 1) (c := fun p => (U p).1) (d := fun p => (U p).2) fun p hp => uc p (List.mem_filter.mp hp).1
      let v := max (R a).1 (x + (sm (ps a) (fun p => (U p).1) - (U (k + 1)).1))
      have v1 : (R a).1 ≤ v := Int.le_max_left _ _
      have v2 : x + (sm (ps a) (fun p => (U p).1) - (U (k + 1)).1) ≤ v := Int.le_max_right _ _
      have v3 : v ≤ (R a).2 := by
        show max _ _ ≤ _
        omega
      have v4 : v ≤ x + (sm (ps a) (fun p => (U p).2) - (U (k + 1)).2) := by
        show max _ _ ≤ _
        omega
      obtain ⟨c, C, ec⟩ := (ih v).mp ⟨v1, v3⟩
      obtain ⟨c1, g1, g2, g3⟩ := choose2 (v := v) (x := x) (T.nd a) hmem uc (by omega) (by omega) (by omega) (by omega)
      obtain ⟨c', h3, h4⟩ := Deal.all T u n (i := a + 1) (by omega) (by omega) ((C.deal T u a).step T g1 fun _ _ => g2.trans ec.symm)
      refine ⟨c', h4.count T u, ?_⟩
      rw [h3 (k + 1) hk (.inr (by omega))]
      simp [hmem, g3]
end PtA
/-! What the program does on lists of lines, and what it comes to. -/
namespace PtB
open PtA
abbrev Rg := Int × Int
def gp (l : List Rg) : St := fun k => l.getD k (0, 0)
theorem gp_set {l : List Rg} {p k : Nat} {v : Rg} : gp (l.set p v) k = if k = p ∧ p < l.length then v else gp l k := by
  unfold gp
  rw [List.getD_eq_getElem?_getD, List.getD_eq_getElem?_getD]
  by_cases e : k = p
  · subst e
    by_cases h : k < l.length
    · rw [List.getElem?_set_self h, if_pos ⟨rfl, h⟩] <;> rfl
    · rw [if_neg (fun z => h z.2)]
      rw [List.getElem?_eq_none (by rw [List.length_set]; omega), List.getElem?_eq_none (by omega)]
  · rw [List.getElem?_set_ne (fun z => e z.symm), if_neg (fun z => e z.1)]
def pt (pss : List (List Nat)) : Nat → List Nat := fun k => pss.getD k []
/-- one line, from the last one on -/
def upStep (pss : List (List Nat)) (str found : List Rg) (a : Nat) : Option (List Rg) :=
  if pt pss a = [] then some found
  else if min (gp str a).2 (sm (pt pss a) fun p => (gp found p).2) < max (gp str a).1 (sm (pt pss a) fun p => (gp found p).1) then none
  else some (found.set a (max (gp str a).1 (sm (pt pss a) fun p => (gp found p).1), min (gp str a).2 (sm (pt pss a) fun p => (gp found p).2)))
def upS (pss : List (List Nat)) (str : List Rg) : Nat → Option (List Rg)
  | 0 => some str
  | i + 1 => (upS pss str i).bind fun f => upStep pss str f (pss.length - 1 - i)
/-- the lines that lie in one, from the first one on -/
def inS (u : List Rg) (lo hi least most : Int) : List Nat → List Rg → List Rg
  | [], f => f
  | p :: ps, f => inS u lo hi least most ps (f.set p (max (gp u p).1 (lo - (most - (gp u p).2)), min (gp u p).2 (hi - (least - (gp u p).1))))
def downStep (pss : List (List Nat)) (u f : List Rg) (a : Nat) : List Rg := inS u (gp f a).1 (gp f a).2 (sm (pt pss a) fun p => (gp u p).1) (sm (pt pss a) fun p => (gp u p).2) (pt pss a) f
def downS (pss : List (List Nat)) (u : List Rg) : Nat → List Rg
  | 0 => u
  | i + 1 => downStep pss u (downS pss u i) i
def treeR (pss : List (List Nat)) (str : List Rg) : Option (List Rg) := (upS pss str pss.length).map fun u => downS pss u pss.length
variable {n : Nat} {pa : Nat → Nat} {pss : List (List Nat)} {str : List Rg}
/-- from line m on, it is done -/
structure UpFrom (m n : Nat) (ps : Nat → List Nat) (str U : St) : Prop where
  leaf : ∀ k, k < n → ps k = [] → U k = str k
  inner : ∀ k, m ≤ k → k < n → ps k ≠ [] → U k = (max (str k).1 (sm (ps k) fun p => (U p).1), min (str k).2 (sm (ps k) fun p => (U p).2))
  ok : ∀ k, m ≤ k → k < n → (U k).1 ≤ (U k).2
theorem UpFrom.isUp {ps : Nat → List Nat} {str U : St} (u : UpFrom 0 n ps str U) : IsUp n ps str U := ⟨u.leaf, fun k hk e => u.inner k (Nat.zero_le _) hk e, fun k hk => u.ok k (Nat.zero_le _) hk⟩
theorem from_up {m : Nat} {ps : Nat → List Nat} {str U : St} {c : Nat → Int} (T : Tree n pa ps) (u : UpFrom m n ps str U) (C : Count n ps str c) : ∀ d k, n ≤ k + d → m ≤ k → k < n → (U k).1 ≤ c k ∧ c k ≤ (U k).2
  | 0, k, h, _, hk => by omega
  | d + 1, k, h, hm, hk => by
    have l := C.lie k hk
    by_cases e : ps k = []
    · rw [u.leaf k hk e]
      exact l
    · rw [u.inner k hm hk e, C.sum k hk e]
      have ih : ∀ p ∈ ps k, (U p).1 ≤ c p ∧ c p ≤ (U p).2 := fun p hp => by
        have := part_gt T hp
        exact from_up T u C d p (by omega) (by omega) this.2
      have h1 := sm_le (l := ps k) fun p hp => (ih p hp).1
      have h2 := sm_le (l := ps k) fun p hp => (ih p hp).2
      rw [C.sum k hk e] at l
      constructor
      · show max _ _ ≤ _
        omega
      · show _ ≤ min _ _
        omega
theorem up_loop (T : Tree n pa (pt pss)) (hp : pss.length = n) (hs : str.length = n) (hl : ∀ k, k < n → (gp str k).1 ≤ (gp str k).2) : ∀ i, i ≤ n →
    match upS pss str i with
    | none => ∀ c, ¬ Count n (pt pss) (gp str) c
    | some f => f.length = n ∧ UpFrom (n - i) n (pt pss) (gp str) (gp f) ∧ ∀ k, k < n - i → gp f k = gp str k
  | 0, _ => by
    show str.length = n ∧ _
    exact ⟨hs, ⟨fun k _ _ => rfl, fun k h hk => by omega, fun k h hk => by omega⟩, fun k _ => rfl⟩
  | i + 1, hi => by
    have ih := up_loop T hp hs hl i (by omega)
    unfold upS
    cases q : upS pss str i with
    | none =>
      rw [q] at ih
      exact ih
    | some f =>
      rw [q] at ih
      obtain ⟨h1, h2, h3⟩ := ih
      show match upStep pss str f (pss.length - 1 - i) with | none => _ | some f => _
      have ea : pss.length - 1 - i = n - (i + 1) := by omega
      rw [ea]
      generalize ha : n - (i + 1) = a
      have han : a < n := by omega
      have hai : n - i = a + 1 := by omega
      rw [hai] at h2 h3
      unfold upStep
      by_cases e : pt pss a = []
      · rw [if_pos e]
        refine ⟨h1, ⟨fun k hk e2 => ?_, fun k hk hkn e2 => ?_, fun k hk hkn => ?_⟩, fun k hk => h3 k (by omega)⟩
        · exact h2.leaf k hk e2
        · have : k ≠ a := fun z => e2 (z ▸ e)
          exact h2.inner k (by omega) hkn e2
        · by_cases z : k = a
          · rw [h3 k (by omega)]
            exact hl k hkn
          · exact h2.ok k (by omega) hkn
      · rw [if_neg e]
        by_cases hlt : min (gp str a).2 (sm (pt pss a) fun p => (gp f p).2) < max (gp str a).1 (sm (pt pss a) fun p => (gp f p).1)
        · rw [if_pos hlt]
          intro c C
          have ih : ∀ p ∈ pt pss a, (gp f p).1 ≤ c p ∧ c p ≤ (gp f p).2 := fun p hp => by
            have := part_gt T hp
            exact from_up T h2 C n p (by omega) (by omega) this.2
          have g1 := sm_le (l := pt pss a) fun p hp => (ih p hp).1
          have g2 := sm_le (l := pt pss a) fun p hp => (ih p hp).2
          have l := C.lie a han
          rw [C.sum a han e] at l
          omega
        · rw [if_neg hlt]
          have gs : ∀ k, k ≠ a → gp (f.set a (max (gp str a).1 (sm (pt pss a) fun p => (gp f p).1), min (gp str a).2 (sm (pt pss a) fun p => (gp f p).2))) k = gp f k := fun k hk => by rw [gp_set, if_neg (fun z => hk z.1)]
          have ga : gp (f.set a (max (gp str a).1 (sm (pt pss a) fun p => (gp f p).1), min (gp str a).2 (sm (pt pss a) fun p => (gp f p).2))) a = (max (gp str a).1 (sm (pt pss a) fun p => (gp f p).1), min (gp str a).2 (sm (pt pss a) fun p => (gp f p).2)) := by rw [gp_set, if_pos ⟨rfl, by omega⟩]
          have na : ∀ k, a ≤ k → a ∉ pt pss k := fun k hk z => by have := part_gt T z; omega
          have gsum : ∀ k, a ≤ k → (sm (pt pss k) fun p => (gp (f.set a (max (gp str a).1 (sm (pt pss a) fun p => (gp f p).1), min (gp str a).2 (sm (pt pss a) fun p => (gp f p).2))) p).1) = (sm (pt pss k) fun p => (gp f p).1) ∧ (sm (pt pss k) fun p => (gp (f.set a (max (gp str a).1 (sm (pt pss a) fun p => (gp f p).1), min (gp str a).2 (sm (pt pss a) fun p => (gp f p).2))) p).2) = (sm (pt pss k) fun p => (gp f p).2) := fun k hk =>
            ⟨sm_congr fun p hp => by rw [gs p fun z => na k hk (z ▸ hp)], sm_congr fun p hp => by rw [gs p fun z => na k hk (z ▸ hp)]⟩
          refine ⟨by rw [List.length_set]; exact h1, ⟨fun k hk e2 => ?_, fun k hk hkn e2 => ?_, fun k hk hkn => ?_⟩, fun k hk => ?_⟩
          · have : k ≠ a := fun z => e (z ▸ e2)
            rw [gs k this]
            exact h2.leaf k hk e2
          · rw [(gsum k hk).1, (gsum k hk).2]
            by_cases z : k = a
            · rw [z, ga]
            · rw [gs k z]
              exact h2.inner k (by omega) hkn e2
          · by_cases z : k = a
            · rw [z, ga]
              show max _ _ ≤ min _ _
              omega
            · rw [gs k z]
              exact h2.ok k (by omega) hkn
          · rw [gs k (by omega)]
            exact h3 k (by omega)
theorem inS_len {u : List Rg} {lo hi least most : Int} : ∀ {ps : List Nat} {f : List Rg}, (inS u lo hi least most ps f).length = f.length
  | [], _ => rfl
  | p :: ps, f => by
    show (inS u lo hi least most ps _).length = _
    rw [inS_len, List.length_set]
theorem inS_at {u : List Rg} {lo hi least most : Int} : ∀ {ps : List Nat} {f : List Rg}, (∀ p ∈ ps, p < f.length) → ∀ k, gp (inS u lo hi least most ps f) k = if k ∈ ps then (max (gp u k).1 (lo - (most - (gp u k).2)), min (gp u k).2 (hi - (least - (gp u k).1))) else gp f k
  | [], f, _, k => by simp [inS]
  | p :: ps, f, h, k => by
    show gp (inS u lo hi least most ps _) k = _
    rw [inS_at (fun q hq => by rw [List.length_set]; exact h q (List.mem_cons_of_mem _ hq)), gp_set]
    have hp := h p List.mem_cons_self
    by_cases e : k ∈ ps
    · rw [if_pos e, if_pos (List.mem_cons_of_mem _ e)]
    · rw [if_neg e]
      by_cases z : k = p
      · subst z
        rw [if_pos ⟨rfl, hp⟩, if_pos List.mem_cons_self]
      · rw [if_neg (fun y => z y.1), if_neg (fun y => by
          rcases List.mem_cons.mp y with y | y
          · exact z y
          · exact e y)]
theorem down_loop (T : Tree n pa (pt pss)) {u : List Rg} (hu : u.length = n) : ∀ i, i ≤ n →
    (downS pss u i).length = n ∧ gp (downS pss u i) 0 = gp u 0 ∧ (∀ k, 0 < k → k < n → pa k < i → gp (downS pss u i) k = (max (gp u k).1 ((gp (downS pss u i) (pa k)).1 - (sm (pt pss (pa k)) (fun p => (gp u p).2) - (gp u k).2)), min (gp u k).2 ((gp (downS pss u i) (pa k)).2 - (sm (pt pss (pa k)) (fun p => (gp u p).1) - (gp u k).1)))) ∧
      ∀ k, 0 < k → k < n → i ≤ pa k → gp (downS pss u i) k = gp u k
  | 0, _ => ⟨hu, rfl, fun k _ _ h => absurd h (Nat.not_lt_zero _), fun k _ _ _ => rfl⟩
  | i + 1, hi => by
    obtain ⟨h1, h2, h3, h4⟩ := down_loop T hu i (by omega)
    show (downStep pss u (downS pss u i) i).length = n ∧ gp (downStep pss u (downS pss u i) i) 0 = gp u 0 ∧ (∀ k, 0 < k → k < n → pa k < i + 1 → gp (downStep pss u (downS pss u i) i) k = (max (gp u k).1 ((gp (downStep pss u (downS pss u i) i) (pa k)).1 - (sm (pt pss (pa k)) (fun p => (gp u p).2) - (gp u k).2)), min (gp u k).2 ((gp (downStep pss u (downS pss u i) i) (pa k)).2 - (sm (pt pss (pa k)) (fun p => (gp u p).1) - (gp u k).1)))) ∧
      ∀ k, 0 < k → k < n → i + 1 ≤ pa k → gp (downStep pss u (downS pss u i) i) k = gp u k
    generalize downS pss u i = f at h1 h2 h3 h4
    have pl : ∀ p ∈ pt pss i, p < f.length := fun p hp => by rw [h1]; exact (part_gt T hp).2
    have at_ : ∀ k, gp (downStep pss u f i) k = if k ∈ pt pss i then (max (gp u k).1 ((gp f i).1 - ((sm (pt pss i) fun p => (gp u p).2) - (gp u k).2)), min (gp u k).2 ((gp f i).2 - ((sm (pt pss i) fun p => (gp u p).1) - (gp u k).1))) else gp f k := fun k => inS_at pl k
    have no : ∀ k, k ≤ i → k ∉ pt pss i := fun k hk z => by have := part_gt T z; omega
    refine ⟨inS_len.trans h1, ?_, fun k k0 kn kp => ?_, fun k k0 kn kp => ?_⟩
    · rw [at_, if_neg (no 0 (Nat.zero_le _))]
      exact h2
    · have lt := T.lt k k0 kn
      have npa : pa k ∉ pt pss i := no (pa k) (by omega)
      rw [at_ (pa k), if_neg npa, at_ k]
      by_cases e : pa k = i
      · have hm : k ∈ pt pss i := (T.mem i k).mpr ⟨⟨k0, kn⟩, e⟩
        rw [if_pos hm, e]
      · have hm : k ∉ pt pss i := fun z => e ((T.mem i k).mp z).2
        rw [if_neg hm]
        exact h3 k k0 kn (by omega)
    · have hm : k ∉ pt pss i := fun z => by have := ((T.mem i k).mp z).2; omega
      rw [at_ k, if_neg hm]
      exact h4 k k0 kn (by omega)
theorem tree_exact (T : Tree n pa (pt pss)) (hp : pss.length = n) (hs : str.length = n) (hl : ∀ k, k < n → (gp str k).1 ≤ (gp str k).2) :
    match treeR pss str with
    | none => ∀ c, ¬ Count n (pt pss) (gp str) c
    | some r => r.length = n ∧ ∀ k, k < n → (gp r k).1 ≤ (gp r k).2 ∧ ∀ x, ((gp r k).1 ≤ x ∧ x ≤ (gp r k).2) ↔ ∃ c, Count n (pt pss) (gp str) c ∧ c k = x := by
  have h := up_loop T hp hs hl n (Nat.le_refl _)
  unfold treeR
  rw [hp]
  cases q : upS pss str n with
  | none =>
    rw [q] at h
    exact h
  | some u =>
    rw [q] at h
    obtain ⟨h1, h2, _⟩ := h
    rw [Nat.sub_self] at h2
    obtain ⟨d1, d2, d3, _⟩ := down_loop T h1 n (Nat.le_refl _)
    show (downS pss u n).length = n ∧ _
    refine ⟨d1, fun k hk => exact T h2.isUp ⟨d2, fun k k0 kn => ?_⟩ (k + 1) k (Nat.lt_succ_self _) hk⟩
    have := T.lt k k0 kn
    exact d3 k k0 kn (by omega)
end PtB
/-! The tree of a shape; the sums of the leaves' numbers. -/
namespace PtC
open PtA PtB
/-- for each line behind the first one, a line ahead of it -/
def ShOk (sh : List Nat) : Prop := ∀ k, k < sh.length → sh.getD k 0 ≤ k
def paS (sh : List Nat) (k : Nat) : Nat := sh.getD (k - 1) 0
def psS (sh : List Nat) (i a : Nat) : List Nat := (List.range i).filter fun k => decide (0 < k) && decide (paS sh k = a)
def pssS (sh : List Nat) : List (List Nat) := (List.range (sh.length + 1)).map fun a => psS sh (sh.length + 1) a
def lvS (sh : List Nat) : List Nat := (List.range (sh.length + 1)).filter fun k => decide (k ∉ sh)
theorem pa_lt {sh : List Nat} (h : ShOk sh) {k : Nat} (k0 : 0 < k) (kn : k < sh.length + 1) : paS sh k < k := by
  have := h (k - 1) (by omega)
  unfold paS
  omega
theorem ps_mem {sh : List Nat} {i a p : Nat} : p ∈ psS sh i a ↔ (0 < p ∧ p < i) ∧ paS sh p = a := by
  unfold psS
  rw [List.mem_filter, List.mem_range, Bool.and_eq_true, decide_eq_true_eq, decide_eq_true_eq]
  exact ⟨fun ⟨a, b, c⟩ => ⟨⟨b, a⟩, c⟩, fun ⟨⟨b, a⟩, c⟩ => ⟨a, b, c⟩⟩
theorem pss_len (sh : List Nat) : (pssS sh).length = sh.length + 1 := by
  unfold pssS
  rw [List.length_map, List.length_range]
theorem pt_in {sh : List Nat} {a : Nat} (h : a < sh.length + 1) : pt (pssS sh) a = psS sh (sh.length + 1) a := by
  unfold pt pssS
  rw [List.getD_eq_getElem?_getD, List.getElem?_map, List.getElem?_range h] <;> rfl
theorem pt_out {sh : List Nat} {a : Nat} (h : ¬ a < sh.length + 1) : pt (pssS sh) a = [] := by
  unfold pt
  rw [List.getD_eq_getElem?_getD, List.getElem?_eq_none (by rw [pss_len]; omega)] <;> rfl
theorem tree_of {sh : List Nat} (h : ShOk sh) : Tree (sh.length + 1) (paS sh) (pt (pssS sh)) := by
  refine ⟨Nat.succ_pos _, fun k k0 kn => pa_lt h k0 kn, fun a p => ?_, fun a => ?_⟩
  · by_cases ha : a < sh.length + 1
    · rw [pt_in ha]
      exact ps_mem
    · rw [pt_out ha]
      refine ⟨fun z => (nomatch z), fun ⟨⟨p0, pn⟩, e⟩ => ?_⟩
      have := pa_lt h p0 pn
      omega
  · by_cases ha : a < sh.length + 1
    · rw [pt_in ha]
      exact List.nodup_range.filter _
    · rw [pt_out ha]
      exact .nil
theorem leaf_iff {sh : List Nat} {k : Nat} (hk : k < sh.length + 1) : pt (pssS sh) k = [] ↔ k ∉ sh := by
  rw [pt_in hk, List.eq_nil_iff_forall_not_mem]
  constructor
  · intro h hm
    obtain ⟨j, hj, e⟩ := List.getElem_of_mem hm
    refine h (j + 1) (ps_mem.mpr ⟨⟨Nat.succ_pos _, by omega⟩, ?_⟩)
    unfold paS
    rw [Nat.add_sub_cancel, List.getD_eq_getElem?_getD, List.getElem?_eq_getElem hj] <;> exact e
  · intro h p hp
    obtain ⟨⟨p0, pn⟩, e⟩ := ps_mem.mp hp
    have hj : p - 1 < sh.length := by omega
    refine h ?_
    rw [← e]
    unfold paS
    rw [List.getD_eq_getElem?_getD, List.getElem?_eq_getElem hj]
    exact List.getElem_mem hj
theorem lv_mem {sh : List Nat} {k : Nat} : k ∈ lvS sh ↔ k < sh.length + 1 ∧ k ∉ sh := by
  unfold lvS
  rw [List.mem_filter, List.mem_range, decide_eq_true_eq]
theorem lv_nd (sh : List Nat) : (lvS sh).Nodup := List.nodup_range.filter _
def gi (l : List Int) : Nat → Int := fun k => l.getD k 0
theorem gi_set {l : List Int} {p k : Nat} {v : Int} : gi (l.set p v) k = if k = p ∧ p < l.length then v else gi l k := by
  unfold gi
  rw [List.getD_eq_getElem?_getD, List.getD_eq_getElem?_getD]
  by_cases e : k = p
  · subst e
    by_cases h : k < l.length
    · rw [List.getElem?_set_self h, if_pos ⟨rfl, h⟩] <;> rfl
    · rw [if_neg (fun z => h z.2), List.getElem?_eq_none (by rw [List.length_set]; omega), List.getElem?_eq_none (by omega)]
  · rw [List.getElem?_set_ne (fun z => e z.symm), if_neg (fun z => e z.1)]
def lst (n : Nat) (c : Nat → Int) : List Int := (List.range n).map c
theorem lst_len {n : Nat} {c : Nat → Int} : (lst n c).length = n := by
  unfold lst
  rw [List.length_map, List.length_range]
theorem lst_gi {l : List Int} {n : Nat} (h : l.length = n) : lst n (gi l) = l := by
  refine List.ext_getElem (by rw [lst_len, h]) fun i h1 h2 => ?_
  have e1 : (lst n (gi l))[i] = gi l i := by simp [lst]
  rw [e1]
  unfold gi
  rw [List.getD_eq_getElem?_getD, List.getElem?_eq_getElem h2] <;> rfl
theorem gi_lst {n k : Nat} {c : Nat → Int} (h : k < n) : gi (lst n c) k = c k := by
  unfold lst gi
  rw [List.getD_eq_getElem?_getD, List.getElem?_map, List.getElem?_range h] <;> rfl
theorem lst_congr {n : Nat} {c d : Nat → Int} (h : ∀ k, k < n → c k = d k) : lst n c = lst n d := List.map_congr_left fun k hk => h k (List.mem_range.mp hk)
/-! ### the law's sums -/
def setAll : List Nat → List Int → List Int → List Int
  | k :: ks, v :: vs, f => setAll ks vs (f.set k v)
  | _, _, f => f
def addUp (sh : List Nat) (f : List Int) : Nat → List Int
  | 0 => f
  | i + 1 => let g := addUp sh f i; g.set (paS sh (sh.length - i)) (gi g (paS sh (sh.length - i)) + gi g (sh.length - i))
def sumsL (sh : List Nat) (nums : List Int) : List Int := addUp sh (setAll (lvS sh) nums (List.replicate (sh.length + 1) 0)) sh.length
theorem setAll_len : ∀ {ks : List Nat} {vs f : List Int}, (setAll ks vs f).length = f.length
  | [], _, _ => rfl
  | _ :: _, [], _ => rfl
  | k :: ks, v :: vs, f => by
    show (setAll ks vs (f.set k v)).length = _
    rw [setAll_len, List.length_set]
theorem setAll_out : ∀ {ks : List Nat} {vs f : List Int} {k : Nat}, k ∉ ks → gi (setAll ks vs f) k = gi f k
  | [], _, _, _, _ => rfl
  | _ :: _, [], _, _, _ => rfl
  | p :: ks, v :: vs, f, k, h => by
    show gi (setAll ks vs (f.set p v)) k = _
    rw [setAll_out fun z => h (List.mem_cons_of_mem _ z), gi_set, if_neg (fun z : k = p ∧ p < f.length => h (by rw [z.1]; exact List.mem_cons_self))]
theorem setAll_in : ∀ {ks : List Nat} {vs f : List Int} {j : Nat}, ks.Nodup → vs.length = ks.length → (∀ k ∈ ks, k < f.length) → (h : j < ks.length) → gi (setAll ks vs f) ks[j] = vs.getD j 0
  | [], _, _, j, _, _, _, h => absurd h (Nat.not_lt_zero _)
  | p :: ks, [], _, _, _, h, _, _ => nomatch h
  | p :: ks, v :: vs, f, 0, nd, hl, hf, h => by
    show gi (setAll ks vs (f.set p v)) p = v
    rw [setAll_out (List.nodup_cons.mp nd).1, gi_set, if_pos ⟨rfl, hf p List.mem_cons_self⟩]
  | p :: ks, v :: vs, f, j + 1, nd, hl, hf, h => by
    show gi (setAll ks vs (f.set p v)) (ks[j]'(Nat.lt_of_succ_lt_succ h)) = vs.getD j 0
    exact setAll_in (List.nodup_cons.mp nd).2 (Nat.succ.inj hl) (fun k hk => by rw [List.length_set]; exact hf k (List.mem_cons_of_mem _ hk)) (Nat.lt_of_succ_lt_succ h)
theorem addUp_len {sh : List Nat} {f : List Int} : ∀ i, (addUp sh f i).length = f.length
  | 0 => rfl
  | i + 1 => by
    show (List.set _ _ _).length = _
    rw [List.length_set, addUp_len i]
theorem sm_ge : ∀ {l : List Nat} {c : Nat → Int} {k : Nat}, l.Nodup → sm (l.filter fun p => decide (k ≤ p)) c = sm (l.filter fun p => decide (k + 1 ≤ p)) c + if k ∈ l then c k else 0
  | [], _, _, _ => rfl
  | p :: l, c, k, nd => by
    obtain ⟨np, nd⟩ := List.nodup_cons.mp nd
    have ih := sm_ge (c := c) (k := k) nd
    by_cases e : p = k
    · subst e
      rw [List.filter_cons_of_pos (by simp), List.filter_cons_of_neg (by simp), sm_cons, ih, if_neg np, if_pos List.mem_cons_self]
      omega
    · have hm : k ∈ p :: l ↔ k ∈ l := by
        rw [List.mem_cons]
        exact ⟨fun z => z.resolve_left fun y => e y.symm, .inr⟩
      by_cases g : k ≤ p
      · rw [List.filter_cons_of_pos (by simp [g]), List.filter_cons_of_pos (by simp; omega), sm_cons, sm_cons, ih]
        by_cases q : k ∈ l
        · rw [if_pos q, if_pos (hm.mpr q)]
          omega
        · rw [if_neg q, if_neg (fun z => q (hm.mp z))]
          omega
      · rw [List.filter_cons_of_neg (by simp [g]), List.filter_cons_of_neg (by simp; omega), ih]
        by_cases q : k ∈ l
        · rw [if_pos q, if_pos (hm.mpr q)]
        · rw [if_neg q, if_neg (fun z => q (hm.mp z))]
theorem add_loop {sh : List Nat} (hs : ShOk sh) {f : List Int} (hf : f.length = sh.length + 1) : ∀ i, i ≤ sh.length → ∀ a, a < sh.length + 1 →
    gi (addUp sh f i) a = gi f a + sm ((pt (pssS sh) a).filter fun p => decide (sh.length - i + 1 ≤ p)) (gi (addUp sh f i))
  | 0, _, a, ha => by
    have e : (pt (pssS sh) a).filter (fun p => decide (sh.length - 0 + 1 ≤ p)) = [] := List.filter_eq_nil_iff.mpr fun p hp => by
      have := part_gt (tree_of hs) hp
      simp
      omega
    rw [e, sm_nil]
    exact (Int.add_zero _).symm
  | i + 1, hi, a, ha => by
    have ih := add_loop hs hf i (by omega)
    have ihk := ih
    have lg : (addUp sh f i).length = sh.length + 1 := (addUp_len i).trans hf
    show gi ((addUp sh f i).set (paS sh (sh.length - i)) (gi (addUp sh f i) (paS sh (sh.length - i)) + gi (addUp sh f i) (sh.length - i))) a = _ + sm _ (gi ((addUp sh f i).set (paS sh (sh.length - i)) (gi (addUp sh f i) (paS sh (sh.length - i)) + gi (addUp sh f i) (sh.length - i))))
    generalize addUp sh f i = g at ih lg
    generalize hk : sh.length - i = k at ih
    have e1 : sh.length - (i + 1) + 1 = k := by omega
    rw [e1]
    have k0 : 0 < k := by omega
    have kn : k < sh.length + 1 := by omega
    have pk := pa_lt hs k0 kn
    have same : sm ((pt (pssS sh) a).filter fun p => decide (k ≤ p)) (gi (g.set (paS sh k) (gi g (paS sh k) + gi g k))) = sm ((pt (pssS sh) a).filter fun p => decide (k ≤ p)) (gi g) := sm_congr fun p hp => by
      have := of_decide_eq_true (List.mem_filter.mp hp).2
      rw [gi_set, if_neg (fun z => by omega)]
    rw [same, sm_ge ((tree_of hs).nd a), gi_set]
    have hm : k ∈ pt (pssS sh) a ↔ paS sh k = a := by
      rw [(tree_of hs).mem]
      exact ⟨fun z => z.2, fun z => ⟨⟨k0, kn⟩, z⟩⟩
    by_cases e : a = paS sh k
    · rw [if_pos ⟨e, by omega⟩, if_pos (hm.mpr e.symm), ← e, ih a ha]
      omega
    · rw [if_neg (fun z => e z.1), if_neg (fun z => e (hm.mp z).symm), ih a ha]
      omega
/-- inner lines have the sums of their parts -/
def Inner (n : Nat) (ps : Nat → List Nat) (c : Nat → Int) : Prop := ∀ k, k < n → ps k ≠ [] → c k = sm (ps k) c
theorem inner_uniq {n : Nat} {pa : Nat → Nat} {ps : Nat → List Nat} {c d : Nat → Int} (T : Tree n pa ps) (hc : Inner n ps c) (hd : Inner n ps d) (h : ∀ k, k < n → ps k = [] → c k = d k) : ∀ m k, n ≤ k + m → k < n → c k = d k
  | 0, k, h1, hk => by omega
  | m + 1, k, h1, hk => by
    by_cases e : ps k = []
    · exact h k hk e
    · rw [hc k hk e, hd k hk e]
      exact sm_congr fun p hp => by
        have := part_gt T hp
        exact inner_uniq T hc hd h m p (by omega) this.2
theorem sums_len {sh : List Nat} {nums : List Int} : (sumsL sh nums).length = sh.length + 1 := by
  unfold sumsL
  rw [addUp_len, setAll_len, List.length_replicate]
theorem sums_inner {sh : List Nat} (hs : ShOk sh) {nums : List Int} (hl : nums.length = (lvS sh).length) : Inner (sh.length + 1) (pt (pssS sh)) (gi (sumsL sh nums)) ∧ ∀ j (h : j < (lvS sh).length), gi (sumsL sh nums) (lvS sh)[j] = nums.getD j 0 := by
  have lf : (setAll (lvS sh) nums (List.replicate (sh.length + 1) 0)).length = sh.length + 1 := by rw [setAll_len, List.length_replicate]
  have key := add_loop hs lf sh.length (Nat.le_refl _)
  refine ⟨fun k hk e => ?_, fun j h => ?_⟩
  · have z := key k hk
    have nl : k ∉ lvS sh := fun q => e ((leaf_iff hk).mpr (lv_mem.mp q).2)
    have e0 : gi (List.replicate (sh.length + 1) (0 : Int)) k = 0 := by
      unfold gi
      rw [List.getD_eq_getElem?_getD, List.getElem?_replicate, if_pos hk] <;> rfl
    rw [setAll_out nl, e0] at z
    have all : (pt (pssS sh) k).filter (fun p => decide (sh.length - sh.length + 1 ≤ p)) = pt (pssS sh) k := List.filter_eq_self.mpr fun p hp => by
      have := part_gt (tree_of hs) hp
      simp
      omega
    rw [all] at z
    show gi (addUp sh _ sh.length) k = sm _ (gi (addUp sh _ sh.length))
    omega
  · have hm := List.getElem_mem h
    obtain ⟨hk, hns⟩ := lv_mem.mp hm
    have z := key _ hk
    rw [(leaf_iff hk).mpr hns, setAll_in (lv_nd sh) hl (fun k hk => by rw [List.length_replicate]; exact (lv_mem.mp hk).1) h] at z
    show gi (addUp sh _ sh.length) _ = _
    rw [z]
    show _ + 0 = _
    omega
theorem sums_of {sh : List Nat} (hs : ShOk sh) {c : Nat → Int} (hc : Inner (sh.length + 1) (pt (pssS sh)) c) : sumsL sh ((lvS sh).map c) = lst (sh.length + 1) c := by
  obtain ⟨h1, h2⟩ := sums_inner hs (nums := (lvS sh).map c) (List.length_map _)
  rw [← lst_gi (sums_len (sh := sh) (nums := (lvS sh).map c))]
  refine lst_congr fun k hk => inner_uniq (tree_of hs) h1 hc (fun k hk e => ?_) (sh.length + 1) k (by omega) hk
  have hm : k ∈ lvS sh := lv_mem.mpr ⟨hk, (leaf_iff hk).mp e⟩
  obtain ⟨j, hj, ej⟩ := List.getElem_of_mem hm
  have := h2 j hj
  rw [ej] at this
  rw [this, List.getD_eq_getElem?_getD, List.getElem?_map, List.getElem?_eq_getElem hj, ej] <;> rfl
end PtC
/-! not xs as a value, xs a list. -/
namespace Py
open PySem PySem.Spec PyProof.Rows L2 Tc Px
variable [Px.Fld]
section
variable {B : Bas} {X : Cx} {Γ : List Sl} {pos : Pos} {a : Expr}
def tNotT (K : PySem.W.Frag) (ta : TE) : TE := fun σ H Q => ta σ H fun x H1 => ∃ k, TruV K x H1 k ∧ Q (.bl (!k)) H1
theorem pe_notT {ta : TE} (ha : PE X a ta) : PE X (.UnaryOp .Not a pos) (tNotT X.K ta) := by
  refine ⟨fun pins s σ H Q I h => ?_⟩
  refine UnaryOp_ (thn (ha.run pins s σ H _ I h) fun v s1 ⟨x, H1, I1, r1, q1⟩ => ?_)
  exact not_of (wpAny_mono (tru_ok pins s1 σ H1 x v (fun k H' => Q (.bl (!k)) H') I1 r1 q1) (fun c s' ⟨H', I', q'⟩ => ⟨.bl (!c), H', I', rfl, q'⟩) fun _ _ e => e)
theorem ge_notL {φ : PyData → List Sl → Prop} (h : GE B X a Γ fun d Γ' => ∃ xs, d = .list xs ∧ φ (.bool xs.isEmpty) Γ') : GE B X (.UnaryOp .Not a pos) Γ φ := fun Hs σ H Q S g =>
  pe_of (pe_notT pe_W) (show teW X a σ H _ from h Hs σ H _ S fun d Γ' v Hs' H' ⟨xs, e, p⟩ s T q => by
    subst e
    cases q with
    | @lst p0 vs _ r dv =>
      refine ⟨!vs.isEmpty, .inl ⟨vs, rdL (rd_up T.sub r), rfl⟩, ?_⟩
      have e : vs.isEmpty = xs.isEmpty := by
        have := dv.len
        cases vs <;> cases xs <;> first | rfl | cases this
      rw [Bool.not_not, e]
      exact g _ Γ' _ Hs' _ p s T (.bl _))
end
end Py
/-! Defs that give a new list. -/
namespace Py
open PySem PySem.Spec PyProof.Rows L2 Tc Px
variable [Px.Fld]
/-- what a def of data gives: a new list -/
def spN (n : Nat) (pre : List PyData → Prop) (f : List PyData → List PyData) : Sp := fun vs H Q E => ∃ Hs ds, Same Hs H ∧ DvAll Hs vs ds ∧ ds.length = n ∧ pre ds ∧
  ∀ a pv Hs' H', Same H H' → Same Hs' H' → Grow H Hs Hs' → H a = none → Hs' a = none → H' a = some (.lst pv) → DvAll Hs' pv (f ds) → Q (.ref a) H'
theorem spN_F {n : Nat} {pre : List PyData → Prop} {f : List PyData → List PyData} {vs : List V} {H : Hp} {Q : VK} {E : XK} (h : spF n pre (fun ds => .ok (.list (f ds))) vs H Q E) : spN n pre f vs H Q E := by
  obtain ⟨Hs, ds, h1, h2, h3, h4, q⟩ := h
  refine ⟨Hs, ds, h1, h2, h3, h4, fun a pv Hs' H' k1 k2 k3 n1 n2 ha da => ?_⟩
  have g : Same Hs' (upd Hs' a (.lst pv)) := Same.new n2
  refine q (.ref a) (upd Hs' a (.lst pv)) H' k1 (fun b u eb => ?_) ⟨k3.same.trans g, fun b nb fb => ?_⟩ (.lst (.inl upd_same) (da.mono g))
  · by_cases z : b = a
    · subst z
      rw [upd_same] at eb
      rw [ha]
      exact eb
    · rw [upd_ne z] at eb
      exact k2 b u eb
  · exact (upd_ne fun z => fb (by rw [z]; exact n1)).trans (k3.off b nb fb)
theorem FnG.imp {P : Program} {w : World} {K : PySem.W.Frag} {mg : Str → Option Value} {base : Heap} {CX : CXT} {k : Nat} {f : Addr} {fd : FuncData} {ps : List Str} {sp sq : Sp} (F : FnG P w K mg base CX k f fd ps sp) (i : ∀ vs H Q E, sq vs H Q E → sp vs H Q E) : FnG P w K mg base CX k f fd ps sq :=
  ⟨fun vs H Q E h => F.len vs H Q E (i vs H Q E h), fun A outer s H args us vs Q E h1 h2 h3 h4 h5 h => F.run A outer s H args us vs Q E h1 h2 h3 h4 h5 (i vs H Q E h)⟩
/-- also as data -/
theorem Call.dat {P : Program} {w : World} {K : PySem.W.Frag} {mg : Str → Option Value} {base : Heap} {CX : CXT} {k n : Nat} {x : Str} {ps : List Str} {pre : List PyData → Prop} {f : List PyData → List PyData} (F : Call P w K mg base CX k x ps (spN n pre f)) : Call P w K mg base CX k x ps (spF n pre fun ds => .ok (.list (f ds))) := by
  obtain ⟨a, fd, G, h1, h2, h3⟩ := F.ex
  exact ⟨a, fd, FnG.imp G fun vs H Q E h => spN_F h, h1, h2, h3⟩
/-- what gives a new list, at a body's end -/
def GsN (B : Bas) (X : Cx) (sts : List Stmt) (Γ : List Sl) (φ : List PyData → Prop) : Prop := ∀ (D : Ends) (Hs : Hp) (σ : L2.St) (H : Hp),
  (∀ ds Γ' a vs Hs' σ' H', φ ds → Same Hs Hs' → Sx B Hs' σ' H' Γ' → B.fr a = none → Hs' a = none → H' a = some (.lst vs) → DvAll Hs' vs ds → D.rt (.ref a) H') → Sx B Hs σ H Γ → tssW X sts D σ H
section
variable {B : Bas} {X : Cx} {Γ : List Sl} {pos : Pos} {k j n : Nat} {φ : List PyData → Prop}
theorem gsn_ret {e : Expr} {rest : List Stmt} (h : GF B X e Γ fun ds _ => φ ds) : GsN B X (.Return (some e) pos :: rest) Γ φ := fun D Hs σ H R S =>
  pss_of (pss_cons ps_W pss_W) (ps_of (ps_ret pe_W) (h Hs σ H _ S fun ds Γ' a vs Hs' H' p s S' f n _ ha da => R ds Γ' a vs Hs' σ H' p s S' f n ha da))
end
section
variable {P : Program} {w : World} {K : PySem.W.Frag} {mg : Str → Option Value} {base : Heap}
theorem fn_new {x qual : Str} {st : Stmt} {f : Addr} {fd : FuncData} {N ps : List Str} {k : Nat} (F : Fun K x qual st f fd) (S : FnScope N ps (defScope st)) (sm : ∃ o, K.lookup sysModules = some o) (hl : ps.length ≤ N.length) (pre : List PyData → Prop) (g : List PyData → List PyData)
    (body : ∀ (cdv : Value) (A : Around) (outer : List Env) (s : Shared) (H : Hp) (E : XK) (B : Bas) (ds : List PyData), ds.length = ps.length → pre ds →
      Bod (cxOf (L2.CX P w) P w K mg base N qual (defScope st) f cdv A outer s H E) k →
      GsN B (cxOf (L2.CX P w) P w K mg base N qual (defScope st) f cdv A outer s H E) (defBody st) (slots0 N (ds.map .d)) (· = g ds)) :
    FnG P w K mg base (L2.CX P w) (k + 1) f fd ps (spN ps.length pre g) := by
  refine Fun.okG F S (fun vs H Q E h => ?_) (fun cdv A outer s H vs Q E hr hgd h => ?_)
  · obtain ⟨Hs, ds, _, d, l, _⟩ := h
    exact d.len.trans l
  · obtain ⟨Hs, ds, sub, dv, l, hp, q⟩ := h
    have S0 : Sx ⟨H, Hs, []⟩ Hs (L2.start N vs) H (slots0 N (ds.map .d)) := by
      refine ⟨Same.refl _, Grow.refl _ _, sub, ?_, fun i t h => ?_, fun i j a es b fs h1 h2 n => ?_, tabs_nil⟩
      · show (vs.map some ++ List.replicate _ none).length = (ds.map Sl.d ++ _).length
        simp only [List.length_append, List.length_map, List.length_replicate, dv.len]
      · rcases slots_get h with rfl | h
        · exact trivial
        · obtain ⟨d, e, rfl⟩ := map_get h
          obtain ⟨v, ev, q⟩ := dvs_get dv e
          exact ⟨v, start_get ev, q⟩
      · rcases slots_get h1 with z | z
        · cases z
        · obtain ⟨d, _, z⟩ := map_get z
          cases z
    exact ⟨_, pss_W, body cdv A outer s H E ⟨H, Hs, []⟩ ds l hp ⟨⟨hr, hgd, sm⟩, S.nd, rfl, PassesOwn.leaving⟩ _ Hs _ H (fun es Γ' a pv Hs' σ' H' e s T f n ha da => q a pv Hs' H' T.fr T.sub T.gr f n ha (e ▸ da)) S0⟩
end
section
variable {B : Bas} {X : Cx} {Γ : List Sl} {pos : Pos} {k j n : Nat} {P : Program} {w : World} {K : PySem.W.Frag} {mg : Str → Option Value} {base : Heap}
theorem gf_callN {x : Str} {p : Pos} {e : Expr} {es : List Expr} {ps : List Str} {pre : List PyData → Prop} {f : List PyData → List PyData} {φ : List PyData → List Sl → Prop} (hX : SameX X P w K mg base) (F : Call P w K mg base (L2.CX P w) j x ps (spN n pre f)) (c : Cxt X k) (hj : Nat.ble j k = true) (hg : Gl X x)
    (h : GA B X (e :: es) Γ fun ds Γ1 => ds.length = n ∧ pre ds ∧ φ (f ds) Γ1) (hdb : (x == ("__debug__" : Str)) = false)
    (he : starEach (e :: es) X.env = (false, eval e X.env) :: starEach es X.env) (hpl : (backTo pos (starEach es X.env)).any (·.1) = false) : GF B X (.Call (.Name x p) (e :: es) [] pos) Γ φ := by
  obtain ⟨rfl, rfl, rfl, rfl, rfl⟩ := hX
  refine fun Hs σ H Q S g => call_W F c (Nat.le_of_ble_eq_true hj) hg takes0 hdb he hpl (h Hs σ H _ S fun ds Γ1 vs Hs1 H1 ⟨l, hp, q⟩ s1 S1 dv => ⟨Hs1, ds, S1.sub, dv, l, hp, fun a pv Hs2 H2 k1 k2 k3 n1 n2 ha da => ?_⟩)
  obtain ⟨s2, S2⟩ := S1.step k3 k1 k2
  refine g _ Γ1 a pv Hs2 H2 q (s1.trans s2) S2 (S1.fr.free n1) n2 (fun i b es hb z => ?_) ha da
  obtain ⟨_, _, _, ws, hw, _⟩ := S1.lst hb
  rw [z, n1] at hw
  cases hw
end
end Py
namespace Py
open PySem PySem.Spec PyProof.Rows L2 Tc Px
variable [Px.Fld]
section
variable {B : Bas} {X : Cx} {Γ : List Sl} {pos : Pos} {k : Nat} {E : DE} {N : List Str}
/-- x, y, z = a, b, c; z a list of its own -/
theorem par_ddo {i j l : Nat} {x y z : Str} {a b e : Expr} {px py pz pt : Pos} {kt k2 : Nat} {pt2 : Pos} (c : Bod X k) (nd : N.Nodup) (eN : X.N = N) (hi : idxS X.N x = some i) (hj : idxS X.N y = some j) (hl : idxS X.N z = some l) (hij : Nat.beq i j = false) (hil : Nat.beq i l = false) (hjl : Nat.beq j l = false)
    (hx : X.env.scope.names.lookup x = some .local) (hy : X.env.scope.names.lookup y = some .local) (hz : X.env.scope.names.lookup z = some .local)
    (hw : swappedStores [.Tuple [.Name x px, .Name y py, .Name z pz] kt pt] (.Tuple [a, b, e] k2 pt2) X.env = pure (some [x, y, z])) (hs : swapsWithSole [.Tuple [.Name x px, .Name y py, .Name z pz] kt pt] (.Tuple [a, b, e] k2 pt2) pos.line X.env = pure false)
    (h1 : starEach [a, b, e] X.env = (false, eval a X.env) :: starEach [b, e] X.env) (h2 : starEach [b, e] X.env = (false, eval b X.env) :: starEach [e] X.env) (h3 : starEach [e] X.env = (false, eval e X.env) :: starEach [] X.env)
    (h : GE B X a Γ fun d1 Γ1 => GE B X b Γ1 fun d2 Γ2 => GF B X e Γ2 fun ds Γ3 => Nat.ble (i + 1) Γ3.length = true ∧ Nat.ble (j + 1) Γ3.length = true ∧ Nat.ble (l + 1) Γ3.length = true ∧ ∀ ad, Alone Γ3 ad → E.nx (((Γ3.set i (.d d1)).set j (.d d2)).set l (.own ad ds))) : G1 B X (.Assign [.Tuple [.Name x px, .Name y py, .Name z pz] kt pt] (.Tuple [a, b, e] k2 pt2) pos) Γ E := fun D Hs σ H R S =>
  ps_of (ps_par3 c.calm (eN ▸ nd) (idxS_ok hi) (idxS_ok hj) (idxS_ok hl) (Nat.ne_of_beq_eq_false hij) (Nat.ne_of_beq_eq_false hil) (Nat.ne_of_beq_eq_false hjl) hx hy hz (pa_cons pe_W (pa_cons pe_W (pa_cons pe_W pa_nil h3) h2) h1) hw hs)
    (show teW X a σ H _ from h Hs σ H _ S fun d1 Γ1 v1 Hs1 H1 p1 s1 S1 q1 => show teW X b σ H1 _ from p1 Hs1 σ H1 _ S1 fun d2 Γ2 v2 Hs2 H2 p2 s2 S2 q2 => show teW X e σ H2 _ from p2 Hs2 σ H2 _ S2 fun ds Γ3 ad vs Hs3 H3 ⟨l1, l2, l3, p⟩ s3 S3 f n al ha dv => by
      have S4 := (S3.putD (Nat.le_of_ble_eq_true l1) (q1.mono (s2.trans s3))).putD (by rw [List.length_set]; exact Nat.le_of_ble_eq_true l2) (q2.mono s3)
      have al4 : Alone ((Γ3.set i (.d d1)).set j (.d d2)) ad := fun m b es e => by
        rcases get_set e with ⟨_, z⟩ | ⟨_, e⟩
        · cases z
        · rcases get_set e with ⟨_, z⟩ | ⟨_, e⟩
          · cases z
          · exact al m b es e
      exact ⟨_, _, _, rfl, R.nx _ Hs3 _ H3 (p ad al) ((s1.trans s2).trans s3) (S4.putL (by rw [List.length_set, List.length_set]; exact Nat.le_of_ble_eq_true l3) f n ha dv al4)⟩)
end
end Py
/-! Sums of small numbers are small. -/
namespace PtD
open PtA PtB PtC
def tot (g : List Int) : Nat → Int
  | 0 => 0
  | m + 1 => tot g m + gi g m
theorem tot_set {g : List Int} {p : Nat} {v : Int} : ∀ {m : Nat}, p < g.length → tot (g.set p v) m = tot g m + if p < m then v - gi g p else 0
  | 0, _ => by
    show (0 : Int) = 0 + _
    rw [if_neg (Nat.not_lt_zero _)] <;> rfl
  | m + 1, hp => by
    show tot (g.set p v) m + gi (g.set p v) m = tot g m + gi g m + _
    rw [tot_set hp, gi_set]
    by_cases e : m = p
    · subst e
      rw [if_neg (Nat.lt_irrefl _), if_pos ⟨rfl, hp⟩, if_pos (Nat.lt_succ_self _)]
      omega
    · rw [if_neg (fun z : m = p ∧ p < g.length => e z.1)]
      by_cases h : p < m
      · rw [if_pos h, if_pos (Nat.lt_succ_of_lt h)]
        omega
      · rw [if_neg h, if_neg (by omega)]
        omega
theorem add_tot {sh : List Nat} (hs : ShOk sh) {f : List Int} (hf : f.length = sh.length + 1) : ∀ i, i ≤ sh.length → tot (addUp sh f i) (sh.length + 1 - i) = tot f (sh.length + 1)
  | 0, _ => rfl
  | i + 1, hi => by
    have ih := add_tot hs hf i (by omega)
    have lg : (addUp sh f i).length = sh.length + 1 := (addUp_len i).trans hf
    show tot ((addUp sh f i).set (paS sh (sh.length - i)) (gi (addUp sh f i) (paS sh (sh.length - i)) + gi (addUp sh f i) (sh.length - i))) _ = _
    have hp := pa_lt hs (k := sh.length - i) (by omega) (by omega)
    rw [tot_set (by rw [lg]; omega), if_pos (by omega), ← ih]
    rw [show sh.length + 1 - i = sh.length + 1 - (i + 1) + 1 by omega]
    show _ = tot _ _ + gi _ (sh.length + 1 - (i + 1))
    rw [show sh.length + 1 - (i + 1) = sh.length - i by omega]
    omega
theorem add_ge {sh : List Nat} {f : List Int} (hf : ∀ k, 0 ≤ gi f k) : ∀ i k, 0 ≤ gi (addUp sh f i) k
  | 0, k => hf k
  | i + 1, k => by
    show 0 ≤ gi ((addUp sh f i).set _ _) k
    rw [gi_set]
    split
    · have h1 := add_ge (sh := sh) hf i (paS sh (sh.length - i))
      have h2 := add_ge (sh := sh) hf i (sh.length - i)
      omega
    · exact add_ge hf i k
theorem tot_le {f : List Int} {b : Int} (hf : ∀ k, gi f k ≤ b) : ∀ m : Nat, tot f m ≤ b * m
  | 0 => by show (0 : Int) ≤ b * ((0 : Nat) : Int); omega
  | m + 1 => by
    show tot f m + gi f m ≤ _
    have h1 := tot_le hf m
    have h2 := hf m
    rw [show b * ((m + 1 : Nat) : Int) = b * (m : Int) + b by rw [Int.natCast_add, Int.mul_add]; simp]
    omega
theorem set_bnd : ∀ {ks : List Nat} {vs f : List Int}, (∀ x ∈ vs, 0 ≤ x ∧ x ≤ 9) → (∀ k, 0 ≤ gi f k ∧ gi f k ≤ 9) → ∀ k, 0 ≤ gi (setAll ks vs f) k ∧ gi (setAll ks vs f) k ≤ 9
  | [], _, _, _, hf => hf
  | _ :: _, [], _, _, hf => hf
  | k :: ks, v :: vs, f, hv, hf => by
    show ∀ j, 0 ≤ gi (setAll ks vs (f.set k v)) j ∧ _
    refine set_bnd (fun x hx => hv x (List.mem_cons_of_mem _ hx)) fun j => ?_
    rw [gi_set]
    split
    · exact hv v List.mem_cons_self
    · exact hf j
theorem gi_zero {n : Nat} (k : Nat) : gi (List.replicate n 0) k = 0 := by
  unfold gi
  rw [List.getD_eq_getElem?_getD]
  cases h : (List.replicate n (0 : Int))[k]? with
  | none => rfl
  | some x =>
    have := List.mem_of_getElem? h
    exact List.eq_of_mem_replicate this
theorem sums_bnd {sh : List Nat} (hs : ShOk sh) {nums : List Int} (hl : nums.length = (lvS sh).length) (hv : ∀ x ∈ nums, 0 ≤ x ∧ x ≤ 9) : ∀ k, k < sh.length + 1 → 0 ≤ gi (sumsL sh nums) k ∧ gi (sumsL sh nums) k ≤ 9 * ((sh.length + 1 : Nat) : Int) := by
  have hI := (sums_inner hs hl).1
  have hf := set_bnd (ks := lvS sh) hv (f := List.replicate (sh.length + 1) 0) fun k => by rw [gi_zero]; omega
  have h0 : ∀ k, 0 ≤ gi (sumsL sh nums) k := add_ge (fun k => (hf k).1) sh.length
  have hr : gi (sumsL sh nums) 0 ≤ 9 * ((sh.length + 1 : Nat) : Int) := by
    have ht := add_tot hs (f := setAll (lvS sh) nums (List.replicate (sh.length + 1) 0)) (by rw [setAll_len, List.length_replicate]) sh.length (Nat.le_refl _)
    rw [show sh.length + 1 - sh.length = 1 by omega] at ht
    have ht : 0 + gi (sumsL sh nums) 0 = _ := ht
    have := tot_le (fun k => (hf k).2) (sh.length + 1)
    omega
  have T := tree_of hs
  have up : ∀ m k, k < m → k < sh.length + 1 → gi (sumsL sh nums) k ≤ gi (sumsL sh nums) 0 := by
    intro m
    induction m with
    | zero => intro k h; exact absurd h (Nat.not_lt_zero _)
    | succ m ih =>
      intro k h hk
      by_cases k0 : k = 0
      · rw [k0]; exact Int.le_refl _
      · have hp := T.lt k (by omega) hk
        have hm : k ∈ pt (pssS sh) (paS sh k) := (T.mem _ _).mpr ⟨⟨by omega, hk⟩, rfl⟩
        have e := hI (paS sh k) (by omega) (fun z => by rw [z] at hm; cases hm)
        have h1 := sm_split (gi (sumsL sh nums)) (T.nd (paS sh k)) hm
        have h2 : 0 ≤ sm ((pt (pssS sh) (paS sh k)).filter fun q => q ≠ k) (gi (sumsL sh nums)) := by
          have := sm_le (l := (pt (pssS sh) (paS sh k)).filter fun q => q ≠ k) (c := fun _ => 0) (d := gi (sumsL sh nums)) fun p _ => h0 p
          have z : ∀ l : List Nat, sm l (fun _ => 0) = 0 := fun l => by
            induction l with
            | nil => rfl
            | cons a l ih => rw [sm_cons, ih] <;> rfl
          rw [z] at this
          exact this
        have := ih (paS sh k) (by omega) (by omega)
        omega
  exact fun k hk => ⟨h0 k, Int.le_trans (up (k + 1) k (Nat.lt_succ_self _) hk) hr⟩
end PtD
/-! Defs of data whose answer is told by a relation. -/
namespace Py
open PySem PySem.Spec PyProof.Rows L2 Tc Px
variable [Px.Fld]
/-- what a def of data gives; R tells what may come -/
def spR (n : Nat) (pre : List PyData → Prop) (R : List PyData → Out → Prop) : Sp := fun vs H Q E => ∃ Hs ds, Same Hs H ∧ DvAll Hs vs ds ∧ ds.length = n ∧ pre ds ∧
  ∀ o, R ds o → ∀ v Hs' H', Same H H' → Same Hs' H' → Grow H Hs Hs' → o.to (fun d => Dv Hs' v d → Q v H') (fun C d => Dv Hs' v d → upE C v H' E)
section
variable {P : Program} {w : World} {K : PySem.W.Frag} {mg : Str → Option Value} {base : Heap}
theorem fn_rel {x qual : Str} {st : Stmt} {f : Addr} {fd : FuncData} {N ps : List Str} {k : Nat} (F : Fun K x qual st f fd) (S : FnScope N ps (defScope st)) (sm : ∃ o, K.lookup sysModules = some o) (hl : ps.length ≤ N.length) (pre : List PyData → Prop) (R : List PyData → Out → Prop)
    (body : ∀ (cdv : Value) (A : Around) (outer : List Env) (s : Shared) (H : Hp) (E : XK) (B : Bas) (ds : List PyData), ds.length = ps.length → pre ds →
      Bod (cxOf (L2.CX P w) P w K mg base N qual (defScope st) f cdv A outer s H E) k → Exc B (cxOf (L2.CX P w) P w K mg base N qual (defScope st) f cdv A outer s H E) (fun C d _ => R ds (.up C d)) →
      Gs B (cxOf (L2.CX P w) P w K mg base N qual (defScope st) f cdv A outer s H E) (defBody st) (slots0 N (ds.map .d)) { nx := fun _ => R ds (.ok .none), rt := fun d _ => R ds (.ok d) }) :
    FnG P w K mg base (L2.CX P w) (k + 1) f fd ps (spR ps.length pre R) := by
  refine Fun.okG F S (fun vs H Q E h => ?_) (fun cdv A outer s H vs Q E hr hgd h => ?_)
  · obtain ⟨Hs, ds, _, d, l, _⟩ := h
    exact d.len.trans l
  · obtain ⟨Hs, ds, sub, dv, l, hp, q⟩ := h
    have tk := takes_of (X := cxOf (L2.CX P w) P w K mg base N qual (defScope st) f cdv A outer s H E) (E := E) rfl rfl rfl rfl
    have S0 : Sx ⟨H, Hs, []⟩ Hs (L2.start N vs) H (slots0 N (ds.map .d)) := by
      refine ⟨Same.refl _, Grow.refl _ _, sub, ?_, fun i t h => ?_, fun i j a es b fs h1 h2 n => ?_, tabs_nil⟩
      · show (vs.map some ++ List.replicate _ none).length = (ds.map Sl.d ++ _).length
        simp only [List.length_append, List.length_map, List.length_replicate, dv.len]
      · rcases slots_get h with rfl | h
        · exact trivial
        · obtain ⟨d, e, rfl⟩ := map_get h
          obtain ⟨v, ev, q⟩ := dvs_get dv e
          exact ⟨v, start_get ev, q⟩
      · rcases slots_get h1 with z | z
        · cases z
        · obtain ⟨d, _, z⟩ := map_get z
          cases z
    refine ⟨_, pss_W, body cdv A outer s H E ⟨H, Hs, []⟩ ds l hp ⟨⟨hr, hgd, sm⟩, S.nd, rfl, PassesOwn.leaving⟩ ⟨_, tk, fun C d Γ v Hs' σ' H' e T dvv dd hdd => ?_⟩ _ Hs _ H ⟨fun Γ Hs' σ' H' e _ T => ?_, fun d Γ v Hs' σ' H' e _ T dvv => ?_, fun _ _ _ _ z => z.elim, fun _ _ _ _ z => z.elim⟩ S0⟩
    · exact q _ e v Hs' H' T.fr T.sub T.gr dvv dd hdd
    · exact q _ e .non Hs' H' T.fr T.sub T.gr .non
    · exact q _ e v Hs' H' T.fr T.sub T.gr dvv
end
section
variable {B : Bas} {X : Cx} {Γ : List Sl} {pos : Pos} {k j n : Nat} {P : Program} {w : World} {K : PySem.W.Frag} {mg : Str → Option Value} {base : Heap}
theorem ge_callRl {x : Str} {p : Pos} {e : Expr} {es : List Expr} {ps : List Str} {pre : List PyData → Prop} {R : List PyData → Out → Prop} {ψ : Addr → PyData → List Sl → Prop} {φ : PyData → List Sl → Prop} (hX : SameX X P w K mg base) (F : Call P w K mg base (L2.CX P w) j x ps (spR n pre R)) (c : Cxt X k) (hj : Nat.ble j k = true) (hg : Gl X x) (ex : Exc B X ψ)
    (h : GA B X (e :: es) Γ fun ds Γ1 => ds.length = n ∧ pre ds ∧ ∀ o, R ds o → o.to (fun d => φ d Γ1) (fun C d => ψ C d Γ1)) (hdb : (x == ("__debug__" : Str)) = false)
    (he : starEach (e :: es) X.env = (false, eval e X.env) :: starEach es X.env) (hpl : (backTo pos (starEach es X.env)).any (·.1) = false) : GE B X (.Call (.Name x p) (e :: es) [] pos) Γ φ := by
  obtain ⟨rfl, rfl, rfl, rfl, rfl⟩ := hX
  obtain ⟨W, tk, hW⟩ := ex
  refine fun Hs σ H Q S g => call_W F c (Nat.le_of_ble_eq_true hj) hg tk hdb he hpl (h Hs σ H _ S fun ds Γ1 vs Hs1 H1 ⟨l, hp, q⟩ s1 S1 dv => ⟨Hs1, ds, S1.sub, dv, l, hp, fun o r v Hs2 H2 k1 k2 k3 => ?_⟩)
  obtain ⟨s2, S2⟩ := S1.step k3 k1 k2
  have q := q o r
  cases o with
  | ok d => exact fun dd => g d Γ1 v Hs2 H2 q (s1.trans s2) S2 dd
  | up C d => exact fun dvv dd hdd => hW C d Γ1 v Hs2 σ H2 q S2 dvv dd hdd
end
end Py
/-! x not in a list of texts, x a value of any kind. -/
namespace Py
open PySem PySem.Spec PyProof.Rows L2 Tc Tz Px
variable [Px.Fld]
open PySem.SeqAt
/-- whether a value of any kind is one of some texts -/
def strIn (d : PyData) (l : List Str) : Bool := match d with
  | .str z => l.any fun y => decide (y = z)
  | _ => false
theorem any_strs (d : PyData) : ∀ l : List Str, ((strL l).any fun y => PyData.eqv y d) = strIn d l
  | [] => by cases d <;> rfl
  | y :: l => by
    have ih := any_strs d l
    show (PyData.eqv (.str y) d || (strL l).any _) = _
    rw [ih]
    cases d with
    | str z => rw [eqv_str] <;> rfl
    | _ => rfl
end Py
/-! x not in a sequence of plain things, as a value -/
namespace Py
open PySem PySem.Spec PyProof.Rows L2 Tc Px
end Py
/-! sorted(set(x)), x a list of small numbers -/
namespace Py
open PySem PySem.Spec PyProof.Rows L2 Tc Px
variable [Px.Fld]
theorem asc_uniq : ∀ {a b : List Int}, a.Pairwise (· < ·) → b.Pairwise (· < ·) → (∀ k, k ∈ a ↔ k ∈ b) → a = b
  | [], [], _, _, _ => rfl
  | [], y :: b, _, _, h => absurd ((h y).mpr (.head _)) (fun z => nomatch z)
  | x :: a, [], _, _, h => absurd ((h x).mp (.head _)) (fun z => nomatch z)
  | x :: a, y :: b, p, q, h => by
    obtain ⟨p1, p2⟩ := List.pairwise_cons.mp p
    obtain ⟨q1, q2⟩ := List.pairwise_cons.mp q
    have e : x = y := by
      rcases List.mem_cons.mp ((h x).mp (.head _)) with e | m
      · exact e
      · rcases List.mem_cons.mp ((h y).mpr (.head _)) with e | m2
        · exact e.symm
        · have h1 := q1 x m
          have h2 := p1 y m2
          omega
    subst e
    refine congrArg (x :: ·) (asc_uniq p2 q2 fun k => ⟨fun m => ?_, fun m => ?_⟩)
    · rcases List.mem_cons.mp ((h k).mp (.tail _ m)) with e | m2
      · have := p1 k m
        omega
      · exact m2
    · rcases List.mem_cons.mp ((h k).mpr (.tail _ m)) with e | m2
      · have := q1 k m
        omega
      · exact m2
/-- the small numbers among these, each once, ascending -/
def asc (ns : List Int) : List Int := ((List.range 61).map Int.ofNat).filter fun k => decide (k ∈ ns)
theorem asc_pair (ns : List Int) : (asc ns).Pairwise (· < ·) := by
  unfold asc
  refine List.Pairwise.filter _ (List.pairwise_map.mpr ?_)
  refine List.Pairwise.imp (fun h => ?_) List.pairwise_lt_range
  exact Int.ofNat_lt.mpr h
theorem asc_mem {ns : List Int} (h : ∀ k ∈ ns, 0 ≤ k ∧ k ≤ 60) (k : Int) : k ∈ asc ns ↔ k ∈ ns := by
  unfold asc
  rw [List.mem_filter, decide_eq_true_eq]
  refine ⟨fun z => z.2, fun z => ⟨?_, z⟩⟩
  have := h k z
  exact List.mem_map.mpr ⟨k.toNat, List.mem_range.mpr (by omega), by show Int.ofNat k.toNat = k; exact Int.toNat_of_nonneg this.1⟩
end Py
/-! Sums of numbers up to b; counts of one stretch otherwise. -/
namespace PtE
open PtA PtB PtC PtD
end PtE
/-! where a text stands in a module's tuple; a list of lambdas given to a def -/
namespace Py
open PySem PySem.Spec PyProof.Rows L2 Tc Px
open LamX (LamS lamCx lamEnv TabB Tabs CodeO)
end Py
/-! a def is called with a list of function values while the cells that they read are tracked: any names -/
namespace Py
open PySem PySem.Spec PyProof.Rows L2 Tc Px
variable [Px.Fld]
theorem rep_flat (d : PyData) : ∀ n : Nat, (List.replicate n [d]).flatten = (List.range n).map fun _ => d
  | 0 => rfl
  | n + 1 => by
    rw [List.replicate_succ', List.flatten_append, rep_flat d n, List.range_succ, List.map_append]
    rfl
end Py
/-! A def of values is called with a lambda that is made there. -/
namespace Py
open PySem PySem.Spec PyProof.Rows L2 Tc Px
open LamX (LamS lamCx lamEnv TabB Tabs CodeO)
end Py
/-! A lambda of one parameter as a value: what a call of it gives. -/
namespace Py
open PySem PySem.Spec PyProof.Rows L2 Tc Px
variable [Px.Fld]
open LamX (LamS lamCx lamEnv Tabs TabB ExtN CodeO TabS)
/-- one parameter, no other name of its own -/
structure LamS1 (sc scope : Scope) (y : Str) : Prop where
  kind : scope.kind = .function
  co : scope.isCoroutine = false
  gen : scope.isGenerator = false
  par : scope.names.lookup y = some .local
  cel : ∀ z ∈ scope.names, z.2 ≠ .cell
  loc : ∀ z ∈ scope.names, z.2 = .local → z.1 = y
  free : ∀ z ∈ scope.names, z.2 = .free → sc.names.lookup z.1 = some .cell ∨ sc.names.lookup z.1 = some .free
def lamS1B (sc scope : Scope) (y : Str) : Bool := decide (scope.kind = .function) && (!scope.isCoroutine && (!scope.isGenerator && (decide (scope.names.lookup y = some .local) &&
  scope.names.all fun z => !decide (z.2 = .cell) && ((!decide (z.2 = .local) || decide (z.1 = y)) && (!decide (z.2 = .free) || (decide (sc.names.lookup z.1 = some .cell) || decide (sc.names.lookup z.1 = some .free)))))))
theorem lamS1_by {sc scope : Scope} {y : Str} (h : lamS1B sc scope y = true) : LamS1 sc scope y := by
  unfold lamS1B at h
  simp only [Bool.and_eq_true, Bool.or_eq_true, Bool.not_eq_true', decide_eq_true_eq, decide_eq_false_iff_not, List.all_eq_true] at h
  obtain ⟨h1, h2, h3, h4, h5⟩ := h
  refine ⟨h1, h2, h3, h4, fun z hz => (h5 z hz).1, fun z hz e => ?_, fun z hz e => ?_⟩
  · rcases (h5 z hz).2.1 with k | k
    · exact absurd e k
    · exact k
  · rcases (h5 z hz).2.2 with k | k
    · exact absurd e k
    · exact k
theorem LamS1.has {X : Cx} {scope : Scope} {y : Str} (L : LamS1 X.env.scope scope y) (ok : X.Ok) : ∀ z ∈ scope.names, z.2 = .free → ∃ c, X.env.cells.lookup z.1 = some c := fun z hz e => by
  rcases L.free z hz e with k | k
  · exact ok.has _ (.inl k)
  · exact ok.has _ (.inr k)
/-- what calling the function at a with one value gives -/
structure Ac1S (P : Program) (w : World) (K : PySem.W.Frag) (mg : Str → Option Value) (base : Heap) (k : Nat) (H Hs : Hp) (a : Addr) (p : PyData → Prop) (g : PyData → Out) : Prop where
  obj : ∃ oc od fd osl, H a = some (ObO a ⟨oc, od, .func fd, osl⟩)
  run : ∀ (A : Around) (outer : List Env) (s : Shared) (H2 Hs2 : Hp) (Q : VK) (E : XK) (x : PyData) (y : V) (u : Value), Room k A → A.guards = some [] → Env0 P w K mg base A outer s H2 → Same H H2 → Grow H Hs Hs2 → Same Hs2 H2 → Dv Hs2 y x → RelV y u → p x →
    (∀ v Hs' H', Same H2 H' → Same Hs' H' → Grow H2 Hs2 Hs' → (g x).to (fun d => Dv Hs' v d → Q v H') (fun C d => Dv Hs' v d → upE C v H' E)) →
    codeAny (model P w) A (.call (.ref a) ⟨[u], []⟩) (CR (L2.CX P w) outer P w H2 s Q E) s
section
variable {X : Cx} {σ : L2.St} {HZ : Hp} {s1 : Shared}
theorem act_start1 {A : Around} {outer : List Env} {E : XK} {scope : Scope} {f c' : Addr} {h₁ : Heap} {tk : Nat} {y0 : Str} {j0 : Nat} {v0 : V} {u0 : Value} (ok : X.Ok) (nd : X.N.Nodup) (hj0 : X.N[j0]? = some y0) (rv : RelV v0 u0) (L : LamS1 X.env.scope scope y0) (e0 : Env0 X.prog X.w X.K X.mg X.base A outer s1 HZ) (hd : A.handled = none) (len : σ.length = X.N.length)
    (cells : ∀ y, (y, NameKind.free) ∈ scope.names → ∃ c, X.env.cells.lookup y = some c ∧ HZ c = none ∧ ∃ v, s1.heap.IsCell c v)
    (slots : ∀ (i : Nat) (y : Str) (v : V), X.N[i]? = some y → σ[i]? = some (some v) → (y, NameKind.free) ∈ scope.names → ∃ c u, X.env.cells.lookup y = some c ∧ RelV v u ∧ s1.heap.IsCell c (some u))
    (hns : h₁.Ns s1.heap.objs.size fun y => ([(y0, u0)] : List (Str × Value)).reverse.lookup y) (kp : ∀ b o, s1.heap.get? b = some o → h₁.get? b = some o) :
    Inv (lamCx X A outer s1 HZ E scope f c') [] (σ.set j0 (some v0)) HZ { s1 with heap := h₁, toks := tk } := by
  have at_ : ∀ {y c}, (cloFrom X.env.cells scope.names []).lookup y = some c → (y, NameKind.free) ∈ scope.names ∧ X.env.cells.lookup y = some c := fun {y c} e => by
    rcases cloFrom_mem (PySem.mem_of_lookup e) with z | ⟨z1, z2⟩
    · cases z
    · obtain ⟨c1, e1, _⟩ := cells _ z1
      refine ⟨z1, ?_⟩
      rw [z2, e1]
      rfl
  have has : ∀ {y}, (y, NameKind.free) ∈ scope.names → ∃ c, (cloFrom X.env.cells scope.names []).lookup y = some c := fun {y} hy => mem_lookup (cloFrom_has (cells := X.env.cells) (acc := []) hy)
  have up : ∀ {c : Addr} {v : Option Value}, s1.heap.IsCell c v → h₁.IsCell c v := fun {c v} ⟨o, ho, hd⟩ => ⟨o, kp _ _ ho, hd⟩
  have kinds : ∀ {y}, Vis scope y → y = y0 ∨ (y ≠ y0 ∧ (y, NameKind.free) ∈ scope.names ∧ scope.names.lookup y = some .free) := fun {y} e => by
    rcases e with z | z | z
    · exact .inl (L.loc _ (PySem.mem_of_lookup z) rfl)
    · exact absurd rfl (L.cel _ (PySem.mem_of_lookup z))
    · exact .inr ⟨fun q => (by have k := L.par; rw [← q] at k; exact nomatch (z.symm.trans k)), PySem.mem_of_lookup z, z⟩
  have none_ : ∀ b : Addr, b ∉ (lamCx X A outer s1 HZ E scope f c').ex := fun b z => absurd (show b ∈ ([] : List Addr) from z) (by simp)
  have okY : (lamCx X A outer s1 HZ E scope f c').Ok := {
    mod := e0.mod
    kind := L.kind
    glob := rfl
    blt := rfl
    above := Nat.le_refl _
    inj := fun x y c e1 e2 => ok.inj x y c (at_ e1).2 (at_ e2).2
    has := fun x hx => by
      have hx : scope.names.lookup x = some .cell ∨ scope.names.lookup x = some .free := hx
      exact hx.elim (fun z => absurd rfl (L.cel _ (PySem.mem_of_lookup z))) fun z => has (PySem.mem_of_lookup z)
    cab := fun x c z _ => by
      have z : false = true := z
      cases z
    hd := fun _ => hd
    frames := Around.frames_deeper e0.frames
    stk := .inr ⟨rfl, rfl⟩
    exf := fun b z => absurd z (none_ b)
    bs := e0.bs
    bsz := e0.bsz
    noex := fun b _ _ => none_ b
    exfs := fun b z => absurd z (none_ b)
    funs := e0.funs
    frf := e0.frf }
  refine ⟨okY, rfl, e0.bare, Un.kept kp, ⟨_, hns, fun i y v e1 e2 e3 => ?_⟩, fun y c e => ?_, e0.hok.fresh (Nat.le_refl _), fun y c e => ?_, fun q hq => absurd (show q ∈ ([] : List (Addr × Obj)) ++ [] from hq) (by simp), e0.hok.kept kp, by rw [List.length_set]; exact len⟩
  · rcases kinds (show Vis scope y from e3) with rfl | ⟨ne, hm, hl⟩
    · have ij : i = j0 := (List.getElem?_inj (List.getElem?_eq_some_iff.mp e1).1 nd).mp (e1.trans hj0.symm)
      subst ij
      rw [List.getElem?_set_self (by rw [len]; exact (List.getElem?_eq_some_iff.mp e1).1)] at e2
      cases e2
      exact ⟨u0, rv, .inl ⟨L.par, List.lookup_cons_self⟩⟩
    have e1' : X.N[i]? = some y := e1
    have ij : j0 ≠ i := fun z => ne (by rw [z, e1'] at hj0; exact Option.some.inj hj0)
    rw [List.getElem?_set_ne ij] at e2
    obtain ⟨c, u, e4, r, z⟩ := slots i y v e1 e2 hm
    obtain ⟨c2, h2⟩ := has hm
    have e5 := (at_ h2).2
    rw [e4] at e5
    cases e5
    exact ⟨u, r, .inr ⟨.inr hl, c, h2, up z⟩⟩
  · obtain ⟨hm, e1⟩ := at_ (show (cloFrom X.env.cells scope.names []).lookup y = some c from e)
    obtain ⟨c2, e2, _, v, z⟩ := cells y hm
    rw [e1] at e2
    cases e2
    exact ⟨v, up z⟩
  · obtain ⟨hm, e1⟩ := at_ (show (cloFrom X.env.cells scope.names []).lookup y = some c from e)
    obtain ⟨c2, e2, z, _⟩ := cells y hm
    rw [e1] at e2
    cases e2
    exact z
end
theorem act1_of {X : Cx} {k : Nat} {L : Pins} {Hc Hs : Hp} {σ : L2.St} {Γ : List Sl} {params : Arguments} {body : Expr} {scope : Scope} {f c' : Addr} {pm ctv : Value} {y0 : Str} {j0 : Nat} {p : PyData → Prop} {g : PyData → Out} (ok : X.Ok) (nd : X.N.Nodup) (hj0 : X.N[j0]? = some y0) (S : LamS1 X.env.scope scope y0)
    (hf : Hc f = some (ObO f (PySem.W.kla_obj "<lambda>" (X.env.qual ++ "<lambda>") params body scope (cloFrom X.env.cells scope.names []) pm c' ctv))) (hc : Hc c' = some (CodeO c' (X.env.qual ++ "<lambda>")))
    (hbind : ∀ u : Value, bindArgs (PySem.W.kla_fn "<lambda>" (X.env.qual ++ "<lambda>") params body scope (cloFrom X.env.cells scope.names []) pm (.ref c') ctv) ⟨[u], []⟩ = pure [(y0, u)])
    (KL : Kept L Hc) (len : σ.length = X.N.length) (lenG : σ.length = Γ.length) (fl : Flat Γ) (dat : ∀ (i : Nat) (x : PyData), Γ[i]? = some (.d x) → ∃ v, σ[i]? = some (some v) ∧ Dv Hs v x) (off : ∀ b o, L.lookup b = some o → Hs b = none)
    (cells : ∀ y, (y, NameKind.free) ∈ scope.names → ∃ c o v, X.env.cells.lookup y = some c ∧ L.lookup c = some o ∧ o.data = .cell v)
    (slots : ∀ (i : Nat) (y : Str) (v : V), X.N[i]? = some y → σ[i]? = some (some v) → (y, NameKind.free) ∈ scope.names → ∃ c o u, X.env.cells.lookup y = some c ∧ L.lookup c = some o ∧ o.data = .cell (some u) ∧ RelV v u)
    (judge : ∀ (x : PyData), p x → ∀ (A : Around) (outer : List Env) (s : Shared) (H : Hp) (E : XK) (B : Bas), Room k (lamCx X A outer s H E scope f c').A → (lamCx X A outer s H E scope f c').A.guards = some [] → Exc B (lamCx X A outer s H E scope f c') (fun C d _ => g x = .up C d) →
      GE B (lamCx X A outer s H E scope f c') body (Γ.set j0 (.d x)) fun d _ => g x = .ok d) : Ac1S X.prog X.w X.K X.mg X.base (k + 1) Hc Hs f p g := by
  refine ⟨⟨_, _, _, _, hf⟩, fun A outer s H2 Hs2 Q E x y u hr hgd e0 s2 g2 u2 dx rv px q => ?_⟩
  have K2 : Kept L H2 := fun b o z => s2 _ _ (KL b o z)
  have at2 : ∀ b o, L.lookup b = some o → s.heap.get? b = some o := fun b o z => K2.at_ e0.hok z
  have nf : ∀ b o, L.lookup b = some o → b ∉ frs outer := fun b o z hb => by
    have := e0.frf b hb
    rw [K2 b o z] at this
    cases this
  have off2 : ∀ b o, L.lookup b = some o → Hs2 b = none := fun b o z => g2.off b (off b o z) (by rw [KL b o z]; exact fun y => nomatch y)
  have e1 := env0_less K2 e0
  have of1 : s.heap.get? f = some (PySem.W.kla_obj "<lambda>" (X.env.qual ++ "<lambda>") params body scope (cloFrom X.env.cells scope.names []) pm c' ctv) := by
    obtain ⟨z, _⟩ : s.heap.get? f = some _ ∧ _ := e0.hok f _ (s2 _ _ hf)
    exact z
  obtain ⟨⟨oc, vs, t, hoc, hdc, hvc⟩, _, _⟩ := e0.hok c' _ (s2 _ _ hc)
  have lim : s.heap.NoLimit := e0.mod.nolimit.keeps fun b o e => (e0.bs b o e).1
  refine codeAny_mono (?_ : codeAny (model X.prog X.w) A (.call (.ref f) ⟨[u], []⟩) (CR (L2.CX X.prog X.w) outer X.prog X.w (less H2 L) s (fun v H' => Q v (back H2 H' L)) (fun c d H' => E c d (back H2 H' L))) s) fun r s' h => cr_back K2 e0.hok nf h
  refine PySem.W.kla_callFunE hr.depth of1 rfl S.co S.gen rfl ⟨c', oc, vs, t, rfl, hoc, hdc, hvc⟩ ?_
  rw [hbind u]
  refine wpAny_pure (wpAny_newFunctionEnv (fun y hy => S.cel y hy) (fun y hy => by
    obtain rfl := List.mem_singleton.mp hy
    exact S.par) (fun h₁ hns hsb => ⟨lim.fresh _ hsb, ?_⟩) S.kind)
  show codeAny _ _ (.expr body (lamEnv X scope s.heap.objs.size f c')) _ _
  have kp : ∀ b o, s.heap.get? b = some o → h₁.get? b = some o := fun b o e => hsb.extBut b o (Nat.ne_of_lt (Heap.lt_size e)) (Heap.get?_push_of_some _ e)
  have J := act_start1 (f := f) (c' := c') (E := fun c d H' => E c d (back H2 H' L)) (tk := s.toks + ([(y0, u)] : List (Str × Value)).length) ok nd hj0 rv S e1 hr.hd len (fun y hy => by
      obtain ⟨c, o, v, z1, z2, z3⟩ := cells y hy
      exact ⟨c, z1, less_in z2, v, o, at2 c o z2, z3⟩) (fun i y v n1 n2 n3 => by
      obtain ⟨c, o, u, z1, z2, z3, z4⟩ := slots i y v n1 n2 n3
      exact ⟨c, u, z1, z4, o, at2 c o z2, z3⟩) hns kp
  have noL : ∀ (pins : Pins) (σ' : L2.St) (H' : Hp) (s' : Shared), Inv (lamCx X A outer s (less H2 L) (fun c d H' => E c d (back H2 H' L)) scope f c') pins σ' H' s' → ∀ b o, L.lookup b = some o → H' b = none := fun pins σ' H' s' I b o z => I.base.free b o (at2 b o z) (less_in z) (fun y => nomatch (show b ∈ ([] : List Addr) from y))
  -- what it gives, in the whole heap
  have give : ∀ {v : V} {Hs' H' : Hp} {σ' : L2.St} {Γ' : List Sl}, (∀ b o, L.lookup b = some o → H' b = none) → Same Hs2 Hs' → Sx ⟨less H2 L, Hs2, []⟩ Hs' σ' H' Γ' → Same H2 (back H2 H' L) ∧ Same Hs' (back H2 H' L) ∧ Grow H2 Hs2 Hs' := fun {v Hs' H' σ' Γ'} no s3 T => by
    have nd : ∀ b o, L.lookup b = some o → Hs' b = none := fun b o z => by
      cases y : Hs' b with
      | none => rfl
      | some u =>
        have := T.sub b u y
        rw [no b o z] at this
        cases this
    refine ⟨fun b u e => ?_, fun b u e => ?_, s3, fun b n nb => ?_⟩
    · cases z : L.lookup b with
      | some o => rw [back_in z]; exact e
      | none =>
        rw [back_out z]
        exact T.fr b u (by show less H2 L b = some u; rw [less_out z]; exact e)
    · cases z : L.lookup b with
      | some o => rw [nd b o z] at e; cases e
      | none => rw [back_out z]; exact T.sub b u e
    · cases z : L.lookup b with
      | some o => exact nd b o z
      | none => exact T.gr.off b n (by show less H2 L b ≠ none; rw [less_out z]; exact nb)
  have tk := takes_of (X := lamCx X A outer s (less H2 L) (fun c d H' => E c d (back H2 H' L)) scope f c') (E := fun c d H' => E c d (back H2 H' L)) rfl rfl rfl rfl
  have S0 : Sx ⟨less H2 L, Hs2, []⟩ Hs2 (σ.set j0 (some y)) (less H2 L) (Γ.set j0 (.d x)) := by
    refine ⟨Same.refl _, Grow.refl _ _, fun b u e => ?_, by rw [List.length_set, List.length_set]; exact lenG, fun i t h => ?_, fun i j b es c fs h1 h2 n => ?_, tabs_nil⟩
    · cases z : L.lookup b with
      | some o => rw [off2 b o z] at e; cases e
      | none => rw [less_out z]; exact u2 b u e
    · rcases get_set h with ⟨ij, rfl⟩ | ⟨ij, h⟩
      · have l0 := (List.getElem?_eq_some_iff.mp hj0).1
        exact ⟨y, by rw [ij, List.getElem?_set_self (by rw [len]; exact l0)], dx⟩
      rcases fl i t h with rfl | ⟨x2, rfl⟩
      · exact trivial
      · obtain ⟨v, e, d⟩ := dat i x2 h
        exact ⟨v, by rw [List.getElem?_set_ne (fun z => ij z.symm)]; exact e, d.mono g2.same⟩
    · rcases get_set h1 with ⟨_, z⟩ | ⟨_, h1⟩
      · cases z
      rcases fl i _ h1 with z | ⟨x2, z⟩ <;> cases z
  have main := judge x px A outer s (less H2 L) (fun c d H' => E c d (back H2 H' L)) ⟨less H2 L, Hs2, []⟩ (hr.deeper _) hgd ⟨_, takes_no noL tk, fun C d Γ' v Hs' σ' H' e T dvv dd hdd no => ?_⟩ Hs2 (σ.set j0 (some y)) (less H2 L) (fun v H' => (∀ b o, L.lookup b = some o → H' b = none) → Q v (back H2 H' L)) S0 (fun d Γ' v Hs' H' e s3 T dvv no => ?_)
  · refine PySem.W.kla_codeExpr (wpAny_mono (teE main [] _ J) (fun v s' hq => ?_) fun e s' hq => hq)
    obtain ⟨w', H', J', rv, z⟩ := hq
    exact ⟨w', H', J'.os, J'.bare, J'.base, J'.hok, rv, z (noL _ _ _ _ J')⟩
  · -- an error
    cases dd with
    | none =>
      have no' : ∀ b o, L.lookup b = some o → H' b = none := no
      obtain ⟨k1, k2, k3⟩ := give (v := v) no' T.gr.same T
      have y := q v Hs' _ k1 k2 k3
      rw [show g x = .up C d from e] at y
      exact y dvv none hdd
    | some dd =>
    have ndd : L.lookup dd = none := by
      cases z : L.lookup dd with
      | none => rfl
      | some o =>
        have : upd H' dd _ dd = none := no dd o z
        rw [upd_same] at this
        cases this
    have no' : ∀ b o, L.lookup b = some o → H' b = none := fun b o z => by
      have y : upd H' dd _ b = none := no b o z
      rw [upd_ne (fun r => by rw [r, ndd] at z; cases z)] at y
      exact y
    obtain ⟨k1, k2, k3⟩ := give (v := v) no' T.gr.same T
    have y := q v Hs' _ k1 k2 k3
    rw [show g x = .up C d from e] at y
    show E _ _ (back H2 (upd H' dd _) L)
    rw [upd_back ndd]
    exact y dvv (some dd) ⟨hdd.1, by show back H2 H' L dd = none; rw [back_out ndd]; exact hdd.2⟩
  · obtain ⟨k1, k2, k3⟩ := give (v := v) no s3 T
    have y := q v Hs' _ k1 k2 k3
    rw [show g x = .ok d from e] at y
    exact y dvv
end Py
/-! x, y, z = a, b, c where one of the names is used in a lambda; z a list of its own. -/
namespace Py
open PySem PySem.Spec PyProof.Rows L2 Tc Px
end Py
/-! x != y of instances with an own __eq__. -/
namespace Py
open PySem PySem.Spec PyProof.Rows L2 Tc Px
end Py
/-! A def of data that makes lambdas: the tables of lambdas beside. -/
namespace Py
open PySem PySem.Spec PyProof.Rows L2 Tc Px
variable [Px.Fld]
def spU (n : Nat) (pre : List PyData → Prop) (f : List PyData → Out) (T : List (Addr × Str)) : Sp := fun vs H Q E => ∃ Hs ds, Same Hs H ∧ DvAll Hs vs ds ∧ ds.length = n ∧ pre ds ∧ TbN T Hs H ∧
  ∀ v Hs' H', (∀ b u, H b = some u → (∀ p ∈ T, b ≠ p.1) → H' b = some u) → Same Hs' H' → Grow H Hs Hs' → TbN T Hs' H' → (f ds).to (fun d => Dv Hs' v d → Q v H') (fun C d => Dv Hs' v d → upE C v H' E)
section
variable {P : Program} {w : World} {K : PySem.W.Frag} {mg : Str → Option Value} {base : Heap}
theorem fn_dataTC {x qual : Str} {st : Stmt} {f : Addr} {fd : FuncData} {N ps : List Str} {k : Nat} {cc : Addr} (T : List (Addr × Str)) (F : Fun K x qual st f fd) (hcode : fd.code = .ref cc) (S : FnScope N ps (defScope st)) (sm : ∃ o, K.lookup sysModules = some o) (hl0 : ps.length ≤ N.length) (pre : List PyData → Prop) (g : List PyData → Out)
    (body : ∀ (A : Around) (outer : List Env) (s : Shared) (H : Hp) (E : XK) (B : Bas) (ds : List PyData), ds.length = ps.length → pre ds → B.T = T → (∀ p ∈ T, B.fr p.1 = none) →
      Bod (cxOf (L2.CX P w) P w K mg base N qual (defScope st) f (.ref cc) A outer s H E) k → Exc B (cxOf (L2.CX P w) P w K mg base N qual (defScope st) f (.ref cc) A outer s H E) (fun C d _ => g ds = .up C d) →
      Gs B (cxOf (L2.CX P w) P w K mg base N qual (defScope st) f (.ref cc) A outer s H E) (defBody st) (slots0 N (ds.map .d)) { nx := fun _ => g ds = .ok .none, rt := fun d _ => g ds = .ok d }) :
    FnG P w K mg base (L2.CX P w) (k + 1) f fd ps (spU ps.length pre g T) := by
  refine Fun.okGC F hcode S (fun vs H Q E h => ?_) (fun A outer s H vs Q E hr hgd h => ?_)
  · obtain ⟨Hs, ds, _, d, l, _⟩ := h
    rw [d.len, l]
  · obtain ⟨Hs, ds, sub, dv, l, hp, tb, q⟩ := h
    have tk := takes_of (X := cxOf (L2.CX P w) P w K mg base N qual (defScope st) f (.ref cc) A outer s H E) (E := E) rfl rfl rfl rfl
    generalize hG : (fun b => if b ∈ T.map Prod.fst then none else H b : Hp) = G
    have GT : ∀ p ∈ T, G p.1 = none := fun p hp => by rw [← hG]; exact if_pos (List.mem_map_of_mem hp)
    have Gb : ∀ b, b ∉ T.map Prod.fst → G b = H b := fun b hc => by rw [← hG]; exact if_neg hc
    have GH : Same G H := fun b o e => by
      by_cases z : b ∈ T.map Prod.fst
      · have e2 : G b = none := by rw [← hG]; exact if_pos z
        rw [e2] at e
        cases e
      · rw [← Gb b z]; exact e
    have S0 : Sx ⟨G, Hs, T⟩ Hs (L2.start N vs) H (slots0 N (ds.map .d)) := by
      refine ⟨GH, Grow.refl _ _, sub, ?_, fun i t h => ?_, fun i j b es c fs h1 h2 n => ?_, tb⟩
      · show (vs.map some ++ List.replicate _ none).length = (ds.map Sl.d ++ _).length
        simp only [List.length_append, List.length_map, List.length_replicate, dv.len]
      · rcases slots_get h with rfl | h
        · exact trivial
        · obtain ⟨d, e, rfl⟩ := map_get (show (ds.map Sl.d)[i]? = some t from h)
          obtain ⟨v, ev, q⟩ := dvs_get dv e
          exact ⟨v, start_get ev, q⟩
      · rcases slots_get h1 with z | z
        · cases z
        · obtain ⟨d, _, z⟩ := map_get (show (ds.map Sl.d)[i]? = _ from z)
          cases z
    have fin : ∀ {Γ : List Sl} {Hs' : Hp} {σ' : L2.St} {H' : Hp}, Sx ⟨G, Hs, T⟩ Hs' σ' H' Γ → (∀ b u, H b = some u → (∀ p ∈ T, b ≠ p.1) → H' b = some u) ∧ Grow H Hs Hs' ∧ TbN T Hs' H' := fun {Γ Hs' σ' H'} Z => by
      have tb' : TbN T Hs' H' := Z.tb
      refine ⟨fun b u eb nt => Z.fr b u ((Gb b fun y => ?_).trans eb), ⟨Z.gr.same, fun b nb fb => ?_⟩, tb'⟩
      · obtain ⟨p, hp, ep⟩ := List.mem_map.mp y
        exact nt p hp ep.symm
      · by_cases y : b ∈ T.map Prod.fst
        · obtain ⟨p, hp, ep⟩ := List.mem_map.mp y
          rw [← ep]
          exact tb'.2 p hp
        · exact Z.gr.off b nb (by show G b ≠ none; rw [Gb b y]; exact fb)
    refine ⟨_, pss_W, body A outer s H E ⟨G, Hs, T⟩ ds l hp rfl GT ⟨⟨hr, hgd, sm⟩, S.nd, rfl, PassesOwn.leaving⟩ ⟨_, tk, fun C d Γ v Hs' σ' H' e T dvv dd hdd => ?_⟩ _ Hs _ H ⟨fun Γ Hs' σ' H' e _ T => ?_, fun d Γ v Hs' σ' H' e _ T dvv => ?_, fun _ _ _ _ z => z.elim, fun _ _ _ _ z => z.elim⟩ S0⟩
    · obtain ⟨k1, k2, k3⟩ := fin T
      have z := q v Hs' H' k1 T.sub k2 k3
      rw [show g ds = .up C d from e] at z
      exact z dvv dd hdd
    · obtain ⟨k1, k2, k3⟩ := fin T
      have z := q .non Hs' H' k1 T.sub k2 k3
      rw [show g ds = .ok .none from e] at z
      exact z .non
    · obtain ⟨k1, k2, k3⟩ := fin T
      have z := q v Hs' H' k1 T.sub k2 k3
      rw [show g ds = .ok d from e] at z
      exact z dvv
end
section
variable {B : Bas} {X : Cx} {Γ : List Sl} {pos : Pos} {k j n : Nat} {T : List (Addr × Str)} {P : Program} {w : World} {K : PySem.W.Frag} {mg : Str → Option Value} {base : Heap}
theorem ge_callU {x : Str} {p : Pos} {e : Expr} {es : List Expr} {ps : List Str} {pre : List PyData → Prop} {f : List PyData → Out} {ψ : Addr → PyData → List Sl → Prop} {φ : PyData → List Sl → Prop} (hX : SameX X P w K mg base) (F : Call P w K mg base (L2.CX P w) j x ps (spU n pre f T)) (hT : B.T = T) (hB : ∀ p ∈ T, B.fr p.1 = none) (c : Cxt X k) (hj : Nat.ble j k = true) (hg : Gl X x) (ex : Exc B X ψ)
    (h : GA B X (e :: es) Γ fun ds Γ1 => ds.length = n ∧ pre ds ∧ (f ds).to (fun d => φ d Γ1) (fun C d => ψ C d Γ1)) (hdb : (x == ("__debug__" : Str)) = false)
    (he : starEach (e :: es) X.env = (false, eval e X.env) :: starEach es X.env) (hpl : (backTo pos (starEach es X.env)).any (·.1) = false) : GE B X (.Call (.Name x p) (e :: es) [] pos) Γ φ := fun Hs σ H Q S g => by
  obtain ⟨rfl, rfl, rfl, rfl, rfl⟩ := hX
  obtain ⟨W, tk, hW⟩ := ex
  refine call_W F c (Nat.le_of_ble_eq_true hj) hg tk hdb he hpl (show taW X (e :: es) σ H _ from h Hs σ H _ S fun ds Γ1 vs Hs1 H1 ⟨l, hp, q⟩ s1 S1 dv => ?_)
  have tb1 : TbN T Hs1 H1 := hT ▸ S1.tb
  refine ⟨Hs1, ds, S1.sub, dv, l, hp, tb1, fun v Hs2 H2 k1 k2 k3 k4 => ?_⟩
  have kk : ∀ b, B.fr b ≠ none → H1 b ≠ none := fun b hb => by
    cases z : B.fr b with
    | none => exact absurd z hb
    | some u => rw [S1.fr b u z]; exact fun z => nomatch z
  have S2 : Sx B Hs2 σ H2 Γ1 := by
    refine ⟨fun b u e => k1 b u (S1.fr b u e) (fun p hp z => by rw [z, hB p hp] at e; cases e), S1.gr.trans (k3.mono kk), k2, S1.len, fun j' t ej => ?_, S1.ap, hT ▸ k4⟩
    refine (S1.sl j' t ej).mono k3.same fun b fs z => ?_
    subst z
    obtain ⟨_, _, nb, vb, hb, _⟩ := S1.lst ej
    exact ⟨k3.off b nb (by rw [hb]; exact fun z => nomatch z), (k1 b _ hb (fun p hp z => by
      obtain ⟨ps, e⟩ := tab_there tb1 hp
      rw [← z, hb] at e
      cases e)).trans hb.symm⟩
  cases e : f ds with
  | ok d =>
    rw [e] at q
    exact fun dd => g d _ v Hs2 H2 q (s1.trans k3.same) S2 dd
  | up C d =>
    rw [e] at q
    exact fun dvv dd hdd => hW C d _ v Hs2 σ H2 q S2 dvv dd hdd
end
end Py
/-! A def of values is called with data and a lambda of one parameter that is made there; a def is called by any number of names. -/
namespace Py
open PySem PySem.Spec PyProof.Rows L2 Tc Px
variable [Px.Fld]
open LamX (LamS lamCx lamEnv TabB Tabs CodeO)
/-! ### a call x(e), x a value that can be called -/
section
variable {B : Bas} {X : Cx} {Γ : List Sl} {pos : Pos} {k j n : Nat} {E : DE}
theorem act1_e {i : Nat} {x : Str} {p : Pos} {a : Addr} {e : Expr} {pr : PyData → Prop} {f : PyData → Out} {ψ : Addr → PyData → List Sl → Prop} {φ : PyData → List Sl → Prop} (A : Ac1S X.prog X.w X.K X.mg X.base j B.fr B.hs a pr f) (c : Cxt X k) (hj : Nat.ble j k = true) (ex : Exc B X ψ)
    (hN : idxS X.N x = some i) (hv : Sees X.env.scope x = true) (hΓ : Γ[i]? = some (.v (.ref a))) (h : GE B X e Γ fun d Γ1 => pr d ∧ (f d).to (fun d2 => φ d2 Γ1) (fun C d2 => ψ C d2 Γ1)) (hd : (x == ("__debug__" : Str)) = false) (hcd : (x == ("__classdict__" : Str)) = false)
    (he : starEach [e] X.env = (false, eval e X.env) :: starEach [] X.env) (hpl : (backTo pos (starEach [] X.env)).any (·.1) = false) : GE B X (.Call (.Name x p) [e] [] pos) Γ φ := fun Hs σ H Q S g => by
  obtain ⟨W, tk, hW⟩ := ex
  refine teI fun pins s I => ?_
  refine wpAny_Call_Name_kw (thn ((pe_var (pos := p) (idxS_ok hN) (sees_ok hv) hd hcd).run pins s σ H (fun v H1 => v = .ref a ∧ H1 = H) I ⟨.ref a, S.val hΓ, rfl, rfl⟩) fun u s1 ⟨v, H1, I1, r1, ev, eH⟩ => ?_)
  subst ev
  rw [eH] at I1
  obtain rfl : u = Value.ref a := r1
  obtain ⟨oc, od, fd, osl, ho⟩ := A.obj
  have there : ∀ {s : Shared} {pins : Pins} {H : Hp}, Inv X pins σ H s → Same B.fr H → s.heap.get? a = some ⟨oc, od, .func fd, osl⟩ := fun {s pins H} I fr => by
    obtain ⟨z, _⟩ : s.heap.get? a = some _ ∧ _ := I.hok a _ (fr _ _ ho)
    exact z
  have T : taW X [e] σ H (fun vs H1 => ∃ (v : V) (d : PyData) (Γ1 : List Sl) (Hs1 : Hp), vs = [v] ∧ pr d ∧ (f d).to (fun d2 => φ d2 Γ1) (fun C d2 => ψ C d2 Γ1) ∧ Same Hs Hs1 ∧ Sx B Hs1 σ H1 Γ1 ∧ Dv Hs1 v d) :=
    pa_of (pa_cons pe_W pa_nil he) (show teW X e σ H _ from h Hs σ H _ S fun d Γ1 v Hs1 H1 p s1 S1 q => ⟨v, d, Γ1, Hs1, rfl, p.1, p.2, s1, S1, q⟩)
  refine PySem.W.callWith_F (first := []) ⟨_, _, _, _, there I1 S.fr⟩ (thn (taE T pos pins s1 I1) ?_) he hpl
  rintro us s2 ⟨vs, H2, I2, r, v, d, Γ1, Hs1, rfl, px, q, ss, S1, dv⟩
  refine ⟨⟨_, _, _, _, there I2 S1.fr⟩, ?_⟩
  cases r with
  | cons rv r =>
    cases r with
    | nil =>
      have main := A.run X.A X.stack s2 H2 Hs1 Q (fun cl d H' => W cl d σ H') d v _ (c.room.mono (Nat.le_of_ble_eq_true hj)) c.gd I2.env0 S1.fr S1.gr S1.sub dv rv px (fun v2 Hs2 H3 k1 k2 k3 => by
        obtain ⟨s2, S2⟩ := S1.step k3 k1 k2
        cases e : f d with
        | ok d2 =>
          rw [e] at q
          exact fun dd => g d2 Γ1 v2 Hs2 H3 q (ss.trans s2) S2 dd
        | up C d2 =>
          rw [e] at q
          exact fun dvv dd hdd => hW C d2 Γ1 v2 Hs2 σ H3 q S2 dvv dd hdd)
      refine wpAny_call (codeAny_mono main fun r s' hq => ?_)
      cases r with
      | error e => exact tk e s' (XE.of_call I2 (fun _ _ _ h => h) hq)
      | ok fl =>
        cases fl with
        | ret u => exact I2.after hq
        | next | brk | cont => exact False.elim hq
end
/-! ### the lambda is made -/
theorem pe_lam1 {X : Cx} {T : List (Addr × Str)} {c P : Addr} {params : Arguments} {body : Expr} {scope : Scope} {pos : Pos} {y : Str} (TB : TabB X.base X.mg c P) (hcode : X.env.code = .ref c) (hm : (P, lamQ X) ∈ T) (hu : ∀ p ∈ T, p.1 = P → p.2 = lamQ X)
    (hdef : defaultsOf params X.env = ([], [])) (S : LamS1 X.env.scope scope y) : PE X (.Lambda params body scope pos) (tLamF X T P params body scope) := by
  refine ⟨fun pins s σ H Q I h => ?_⟩
  obtain ⟨hT, h⟩ := h
  obtain ⟨ps, hP, ht, ha⟩ := hT _ hm
  have clo := closure_ok (S.has I.ok)
  have gl := I.mod.glob.keeps I.bk
  have cd := TB.code.keeps I.bk
  have bP := TB.bm.keeps I.bk
  have oP : s.heap.get? P = some { cls := .none, data := .fields ps } := I.hok P _ hP
  refine PySem.W.kla_eval hdef ?_
  cases hc : codeAmong pos ps.toList with
  | some cv =>
    obtain ⟨c', e, hco⟩ := ha pos cv hc
    subst e
    refine PySem.W.kla_makeFunctionHit (mg := X.mg) (c := c) (P := P) (ps := ps) clo I.ok.glob gl hcode cd oP ht hc bP fun ctv h' tk hx hsz => ?_
    have I1 : Inv X pins σ H { s with heap := h', toks := tk } := I.kept fun b o e => hx b o e
    have I2 := I1.laid (a := h'.objs.size) (o := ObO h'.objs.size (lamO X params body scope ((X.mg "__name__").getD .none) c' ctv)) (h' := h'.push (lamO X params body scope ((X.mg "__name__").getD .none) c' ctv)) (t' := tk) (fun b u e => Heap.get?_push_of_some _ e) (Nat.le_refl _) (obO_ok (Heap.get?_push_size _ rfl))
    exact ⟨.ref h'.objs.size, _, I2, rfl, h h'.objs.size c' _ ctv H (fun _ _ e _ => e) hT (I1.hok.fresh (Nat.le_refl _)) hco⟩
  | none =>
    refine PySem.W.kla_makeFunction (mg := X.mg) (c := c) (P := P) (ps := ps) clo I.ok.glob gl hcode cd oP ht hc TB.gP bP fun c' ctv h' tk hx hge hlt hrec htb => ?_
    obtain ⟨c2, oc, vs, t, e2, hoc, hd, hv⟩ := hrec
    cases e2
    have nC : H c' = none := I.hok.fresh hge
    have I1 := LamX.inv_table (t' := tk) (more := #[rawInt pos.line, rawInt pos.col, .ref c']) (h' := h') I hP (fun b o hb e => hx b o hb e) htb hge ⟨oc, vs, t, hoc, hd, hv⟩
    have I2 := I1.laid (a := h'.objs.size) (o := ObO h'.objs.size (lamO X params body scope ((X.mg "__name__").getD .none) c' ctv)) (h' := h'.push (lamO X params body scope ((X.mg "__name__").getD .none) c' ctv)) (t' := tk) (fun b u e => Heap.get?_push_of_some _ e) (Nat.le_refl _) (obO_ok (Heap.get?_push_size _ rfl))
    obtain ⟨ext, tabs⟩ := tab_more (pos := pos) hT hP ht hu ha nC
    exact ⟨.ref h'.objs.size, _, I2, rfl, h h'.objs.size c' _ ctv _ ext tabs (I1.hok.fresh (Nat.le_refl _)) upd_same⟩
theorem act1_n {X : Cx} {k : Nat} {L : Pins} {H1 Hs1 : Hp} {B : Bas} {σ : L2.St} {Γ Γ1 : List Sl} {ns : List (Str × Nat)} {params : Arguments} {body : Expr} {scope : Scope} {f c' : Addr} {pm ctv : Value} {y0 : Str} {j0 : Nat} {p : PyData → Prop} {g : PyData → Out} (hj0 : X.N[j0]? = some y0)
    (S : Sx B Hs1 σ H1 Γ1) (C : CellsN X L σ ns) (no : ∀ b o, L.lookup b = some o → H1 b = none) (hn : ∀ p ∈ ns, X.N[p.2]? = some p.1) (nd : X.N.Nodup) (hd : ∀ p ∈ ns, ∃ x, Γ1[p.2]? = some (.d x)) (SL : LamS1 X.env.scope scope y0)
    (hf : B.fr f = some (ObO f (lamO X params body scope pm c' ctv))) (hc : B.fr c' = some (CodeO c' (lamQ X)))
    (hbind : ∀ u : Value, bindArgs (PySem.W.kla_fn "<lambda>" (X.env.qual ++ "<lambda>") params body scope (cloFrom X.env.cells scope.names []) pm (.ref c') ctv) ⟨[u], []⟩ = pure [(y0, u)])
    (hfr : freeIn scope ns = true) (len : σ.length = X.N.length) (M : MaskOk Γ Γ1)
    (judge : ∀ (x : PyData), p x → ∀ (A : Around) (outer : List Env) (s : Shared) (H : Hp) (E : XK) (B : Bas), Room k (lamCx X A outer s H E scope f c').A → (lamCx X A outer s H E scope f c').A.guards = some [] → Exc B (lamCx X A outer s H E scope f c') (fun C d _ => g x = .up C d) →
      GE B (lamCx X A outer s H E scope f c') body (Γ.set j0 (.d x)) fun d _ => g x = .ok d) : Ac1S X.prog X.w X.K X.mg X.base (k + 1) (plus H1 L) Hs1 f p g := by
  have out_ : ∀ {b o}, H1 b = some o → plus H1 L b = some o := fun {b o} e => by
    rw [plus_out (by
      cases q : L.lookup b with
      | none => rfl
      | some u => rw [no b u q] at e; cases e)]
    exact e
  have val : ∀ p ∈ ns, ∃ v, σ[p.2]? = some (some v) := fun p hp => by
    obtain ⟨x, e⟩ := hd p hp
    obtain ⟨v, z, _⟩ := S.dat e
    exact ⟨v, z⟩
  refine act1_of (Γ := Γ) C.ok nd hj0 SL (out_ (S.fr _ _ hf)) (out_ (S.fr _ _ hc)) hbind (fun b o q => plus_in q) len (S.len.trans M.len.symm) (fun i s e => ?_) (fun i x e => ?_) (fun b o q => S.sub.free (no b o q)) (fun y hy => ?_) (fun i y v n1 n2 n3 => ?_) judge
  · rcases M.at_ i s e with z | ⟨_, z⟩
    · exact .inl z
    · exact .inr z
  · rcases M.at_ i _ e with z | ⟨z, _⟩
    · cases z
    · exact S.dat z
  · obtain ⟨i, hi⟩ := freeIn_ok hfr hy
    obtain ⟨v, e⟩ := val _ hi
    obtain ⟨c, o, u, e1, e2, e3, _⟩ := C.at_ _ hi v e
    exact ⟨c, o, _, e1, e2, e3⟩
  · obtain ⟨j, hj⟩ := freeIn_ok hfr n3
    have e := hn _ hj
    have : i = j := by
      have l1 := (List.getElem?_eq_some_iff.mp n1).1
      exact (List.getElem?_inj l1 nd).mp (n1.trans e.symm)
    subst this
    exact C.at_ _ hj v n2
theorem ge_wrongL {B : Bas} {X : Cx} {Γ Γm : List Sl} {pos p l : Pos} {k j kj : Nat} {x : Str} {ns : List (Str × Nat)} {ps : List Str} {r : PyData} {y0 z0 : Str} {j0 i0 : Nat} {d0 : PyData} {pz : Pos} {q : PyData → Prop} {gf : PyData → Out} {pre : Hp → Hp → List V → Out → Prop} {φ : PyData → List Sl → Prop}
    {a : Arguments} {b : Expr} {sc : Scope} {P cc : Addr} {T : List (Addr × Str)} {N : List Str}
    (F : Call X.prog X.w X.K X.mg X.base (L2.CX X.prog X.w) j x ps (spS 2 pre)) (c : Cxt X k) (hj : Nat.ble j k = true) (hg : Gl X x) (hdb : (x == ("__debug__" : Str)) = false)
    (TB : TabB X.base X.mg cc P) (hcode : X.env.code = .ref cc) (hm : (P, lamQ X) ∈ T) (hu : ∀ p ∈ T, p.1 = P → p.2 = lamQ X) (hT : B.T = T) (hB : ∀ p ∈ T, B.fr p.1 = none)
    (hd1 : defaultsOf a X.env = ([], [])) (S1 : LamS1 X.env.scope sc y0) (hj0 : X.N[j0]? = some y0) (hz : idxS X.N z0 = some i0) (hzv : Sees X.env.scope z0 = true) (hzd : (z0 == ("__debug__" : Str)) = false) (hzc : (z0 == ("__classdict__" : Str)) = false) (hz0 : Γ[i0]? = some (.d d0)) (nd : N.Nodup) (eN : X.N = N)
    (hn : ∀ p ∈ ns, CellNm X p) (hdt : ∀ p ∈ ns, ∃ d, Γ[p.2]? = some (.d d)) (hfr : freeIn sc ns = true) (M : MaskOk Γm Γ)
    (hbind : ∀ (pm ctv : Value) (c' : Addr) (u : Value), bindArgs (PySem.W.kla_fn "<lambda>" (X.env.qual ++ "<lambda>") a b sc (cloFrom X.env.cells sc.names []) pm (.ref c') ctv) ⟨[u], []⟩ = pure [(y0, u)])
    (judge : ∀ (x : PyData), q x → ∀ (A : Around) (outer : List Env) (s : Shared) (H : Hp) (E : XK) (B : Bas) (f c' : Addr), Room kj (lamCx X A outer s H E sc f c').A → (lamCx X A outer s H E sc f c').A.guards = some [] → Exc B (lamCx X A outer s H E sc f c') (fun C d _ => gf x = .up C d) →
      GE B (lamCx X A outer s H E sc f c') b (Γm.set j0 (.d x)) fun d _ => gf x = .ok d)
    (hp : ∀ F Hs v f, Dv Hs v d0 → Ac1S X.prog X.w X.K X.mg X.base (kj + 1) F Hs f q gf → pre F Hs [v, .ref f] (.ok r)) (h : φ r Γ) : GE B X (.Call (.Name x p) [.Name z0 pz, .Lambda a b sc l] [] pos) Γ φ := fun Hs σ H Q S g => by
  subst hT
  subst eN
  refine call_plus F c.room c.gd (Nat.le_of_ble_eq_true hj) hg hdb (star_cons rfl) rfl (E := fun _ _ _ => False) pass_never ?_
  obtain ⟨v0, sv0, dv0⟩ := S.dat hz0
  refine pa_of (pa_cons (pe_var (idxS_ok hz) (sees_ok hzv) hzd hzc) (pa_cons (pe_lam1 TB hcode hm hu hd1 S1) pa_nil (star_cons rfl)) (star_cons rfl)) ?_
  refine ⟨v0, sv0, S.tb.1, fun f1 c1 pm1 ct1 H1 k1 t1 n1 e1 => ?_⟩
  generalize hHA : upd H1 f1 (ObO f1 (lamO X a b sc pm1 c1 ct1)) = HA
  have A1 : HA f1 = some (ObO f1 (lamO X a b sc pm1 c1 ct1)) := by rw [← hHA]; exact upd_same
  have kA : ∀ b o, H1 b = some o → HA b = some o := fun b o e => by
    rw [← hHA, upd_ne (ne_new n1 e)]
    exact e
  have A2 := kA _ _ e1
  have tb0 := S.tb
  have tA : TbN B.T Hs HA := tabs_same ⟨t1, tb0.2⟩ kA
  have SA : Sx B Hs σ HA Γ := sx_tab S hm hB (fun b o e n => kA b o (k1 b o e n)) tA.1
  have S3 : Sx ⟨over B.fr HA [f1, c1], Hs, B.T⟩ Hs σ HA Γ := by
    refine ⟨over_same, Grow.refl _ _, SA.sub, SA.len, fun i s hi => ?_, SA.ap, SA.tb⟩
    have q := SA.sl i s hi
    cases s with
    | own a ds =>
      obtain ⟨q1, q2, q3, vs2, q4, q5⟩ := q
      refine ⟨q1, over_none q2 fun hm => ?_, q3, vs2, q4, q5⟩
      cases hm with
      | head =>
        rw [A1] at q4
        unfold ObO at q4
        cases q4
      | tail _ hm =>
        cases hm with
        | head =>
          rw [A2] at q4
          unfold CodeO at q4
          cases q4
        | tail _ hm => cases hm
    | _ => exact q
  intro pins s I
  obtain ⟨L, Fr, nb, CL⟩ := cellsN I ns hn fun p hp => by
    obtain ⟨d, e⟩ := hdt p hp
    obtain ⟨w, z, _⟩ := SA.dat e
    exact ⟨w, z⟩
  refine ⟨L, Fr, nb, Hs, .ok r, Same.plus Fr.no SA.sub, rfl, hp _ _ _ _ dv0 (act1_n hj0 (B := ⟨over B.fr HA [f1, c1], Hs, B.T⟩) S3 CL Fr.no (fun p hp => (hn p hp).2.2.2) nd hdt S1 ((over_in (.head _)).trans A1) ((over_in (.tail _ (.head _))).trans A2) (fun u => hbind _ _ _ u) hfr I.len M fun x hx A outer s H E B => judge x hx A outer s H E B f1 c1), fun v2 Hs2 H2 m1 m2 m3 => ?_⟩
  obtain ⟨s2, S2, kl⟩ := sx_less SA Fr.no m1 m2 m3
  exact fun dv2 => ⟨kl, g r Γ v2 Hs2 (less H2 L) h s2 S2 dv2⟩
/-! ### a def is called by its names, the last one first -/
section
variable {B : Bas} {X : Cx} {Γ : List Sl} {pos : Pos} {k j n : Nat} {T : List (Addr × Str)} {P : Program} {w : World} {K : PySem.W.Frag} {mg : Str → Option Value} {base : Heap}
def tKs (X : Cx) : List Keyword → TA
  | [] => tNil
  | q :: qs => tCons (teW X q.value) (tKs X qs)
theorem pk_all : ∀ ks : List Keyword, PK X ks (tKs X ks)
  | [] => pk_nil
  | ⟨_, _, _⟩ :: ks => pk_cons pe_W (pk_all ks)
def GKs (B : Bas) (X : Cx) : List Keyword → List PyData → List Sl → (List PyData → List Sl → Prop) → Prop
  | [], ds, Γ, φ => φ ds Γ
  | q :: qs, ds, Γ, φ => GE B X q.value Γ fun d Γ1 => GKs B X qs (d :: ds) Γ1 φ
theorem gks_nil {ds : List PyData} {φ : List PyData → List Sl → Prop} (h : φ ds Γ) : GKs B X [] ds Γ φ := h
theorem gks_cons {ds : List PyData} {φ : List PyData → List Sl → Prop} {nm : Option Str} {a : Expr} {p : Pos} {qs : List Keyword} (h : GE B X a Γ fun d Γ1 => GKs B X qs (d :: ds) Γ1 φ) : GKs B X (⟨nm, a, p⟩ :: qs) ds Γ φ := h
theorem gks_run {φ : List PyData → List Sl → Prop} {σ : L2.St} {R : List V → Hp → Prop} : ∀ (ks : List Keyword) {ds : List PyData} {vs : List V} {Γ : List Sl} {Hs H : Hp}, GKs B X ks ds Γ φ → Sx B Hs σ H Γ → DvAll Hs vs ds →
    (∀ ds' Γ' vs' Hs' H', φ ds' Γ' → Same Hs Hs' → Sx B Hs' σ H' Γ' → DvAll Hs' vs' ds' → R vs' H') → tKs X ks σ H fun us H2 => R (us.reverse ++ vs) H2
  | [], ds, vs, Γ, Hs, H, h, S, dv, g => g ds Γ vs Hs H h (Same.refl _) S dv
  | q :: ks, ds, vs, Γ, Hs, H, h, S, dv, g => by
    show teW X q.value σ H _
    refine h Hs σ H _ S fun d Γ1 v Hs1 H1 p s1 S1 q1 => ?_
    have z := gks_run (R := R) ks (ds := d :: ds) (vs := v :: vs) p S1 (.cons q1 (dv.mono s1)) fun ds' Γ' vs' Hs' H' e s2 S2 dv2 => g ds' Γ' vs' Hs' H' e (s1.trans s2) S2 dv2
    refine cast (congrArg (fun r => tKs X ks σ H1 r) (funext fun us => funext fun H2 => ?_)) z
    show R _ H2 = R ((v :: us).reverse ++ vs) H2
    rw [List.reverse_cons, List.append_assoc] <;> rfl
theorem call_Rn {x : Str} {p : Pos} {ks : List Keyword} {ps ns : List Str} {sp : Sp} {W : WX} (F : CallR X.prog X.w X.K X.mg X.base (L2.CX X.prog X.w) j x ps sp ns) (c : Cxt X k) (hj : j ≤ k) (hg : Gl X x) (tk : Takes X W)
    (hall : (backToKw pos (keywordEach ks X.env)).all (·.1.isSome) = true)
    (hks : (backToKw pos (keywordEach ks X.env)).filterMap (·.1) = ns)
    (hpl : ((backTo pos (starEach [] X.env)).any (·.1) || (backToKw pos (keywordEach ks X.env)).any (·.1.isNone)) = false)
    (hl : ns.length = ps.length) (hdb : (x == ("__debug__" : Str)) = false)
    {σ : L2.St} {H : Hp} {Q : VK} (h : tKs X ks σ H fun vs H2 => sp vs.reverse H2 Q fun cl d H' => W cl d σ H') : teW X (.Call (.Name x p) [] ks pos) σ H Q := teI fun pins s I => by
  obtain ⟨f, fd, G, hm, kp, hb⟩ := F.ex
  refine wpAny_Call_Name_kw (ld_glob I hg hm ?_ hdb)
  refine PySem.W.callWith_KW0 (h₀ := X.base) I.ok.mod.kin kp hall (thn ((pk_all ks).run pos pins s σ H (fun vs H2 => sp vs.reverse H2 Q fun cl d H' => W cl d σ H') I h) ?_) hpl
  rintro us s1 ⟨vs, H1, I1, r, q⟩
  refine ⟨I1.kIn, ?_⟩
  rw [hks]
  have l1 := G.len _ _ _ _ q
  rw [List.length_reverse] at l1
  have main := G.run X.A X.stack s1 H1 ⟨[], ns.zip us⟩ us.reverse vs.reverse Q _ (c.room.mono hj) c.gd I1.env0 (hb s1 us (by rw [← r.length, l1, hl])) (vals_rev r) q
  refine wpAny_call (codeAny_mono main ?_)
  intro res s' hq
  cases res with
  | error er => exact tk er s' (XE.of_call I1 (fun _ _ _ h => h) hq)
  | ok fl =>
    cases fl with
    | ret u => exact I1.after hq
    | next | brk | cont => exact False.elim hq
theorem ge_callUR {x : Str} {p : Pos} {ks : List Keyword} {ps ns : List Str} {pre : List PyData → Prop} {f : List PyData → Out} {ψ : Addr → PyData → List Sl → Prop} {φ : PyData → List Sl → Prop} (hX : SameX X P w K mg base) (F : CallR P w K mg base (L2.CX P w) j x ps (spU n pre f T) ns) (hT : B.T = T) (hB : ∀ p ∈ T, B.fr p.1 = none) (c : Cxt X k) (hj : Nat.ble j k = true) (hg : Gl X x) (ex : Exc B X ψ)
    (h : GKs B X ks [] Γ fun ds Γ1 => ds.length = n ∧ pre ds ∧ (f ds).to (fun d => φ d Γ1) (fun C d => ψ C d Γ1)) (hdb : (x == ("__debug__" : Str)) = false)
    (hall : (backToKw pos (keywordEach ks X.env)).all (·.1.isSome) = true)
    (hks : (backToKw pos (keywordEach ks X.env)).filterMap (·.1) = ns)
    (hpl : ((backTo pos (starEach [] X.env)).any (·.1) || (backToKw pos (keywordEach ks X.env)).any (·.1.isNone)) = false)
    (hl : ns.length = ps.length) : GE B X (.Call (.Name x p) [] ks pos) Γ φ := fun Hs σ H Q S g => by
  obtain ⟨rfl, rfl, rfl, rfl, rfl⟩ := hX
  obtain ⟨W, tk, hW⟩ := ex
  refine call_Rn F c (Nat.le_of_ble_eq_true hj) hg tk hall hks hpl hl hdb ?_
  have main := gks_run (R := fun vs H2 => spU n pre f T vs H2 Q fun cl d H' => W cl d σ H') ks h S .nil fun ds Γ1 vs Hs1 H1 z s1 S1 dv => by
    obtain ⟨l, hp, q⟩ := z
    have tb1 : TbN T Hs1 H1 := hT ▸ S1.tb
    refine ⟨Hs1, ds, S1.sub, dv, l, hp, tb1, fun v Hs2 H2 k1 k2 k3 k4 => ?_⟩
    have kk : ∀ b, B.fr b ≠ none → H1 b ≠ none := fun b hb => by
      cases z : B.fr b with
      | none => exact absurd z hb
      | some u => rw [S1.fr b u z]; exact fun z => nomatch z
    have S2 : Sx B Hs2 σ H2 Γ1 := by
      refine ⟨fun b u e => k1 b u (S1.fr b u e) (fun p hp z => by rw [z, hB p hp] at e; cases e), S1.gr.trans (k3.mono kk), k2, S1.len, fun j' t ej => ?_, S1.ap, hT ▸ k4⟩
      refine (S1.sl j' t ej).mono k3.same fun b fs z => ?_
      subst z
      obtain ⟨_, _, nb, vb, hb, _⟩ := S1.lst ej
      exact ⟨k3.off b nb (by rw [hb]; exact fun z => nomatch z), (k1 b _ hb (fun p hp z => by
        obtain ⟨ps, e⟩ := tab_there tb1 hp
        rw [← z, hb] at e
        cases e)).trans hb.symm⟩
    cases e : f ds with
    | ok d =>
      rw [e] at q
      exact fun dd => g d _ v Hs2 H2 q (s1.trans k3.same) S2 dd
    | up C d =>
      rw [e] at q
      exact fun dvv dd hdd => hW C d _ v Hs2 σ H2 q S2 dvv dd hdd
  refine cast (congrArg (fun r => tKs X ks σ H r) (funext fun us => funext fun H2 => ?_)) main
  rw [List.append_nil]
end
end Py
/-! try .. except (A, B, C) as e, with any suite. -/
namespace Py
open PySem PySem.Spec PyProof.Rows L2 Tc Px
end Py
/-! raise X(), told by names. -/
namespace Py
open PySem PySem.Spec PyProof.Rows L2 Tc Px
end Py
section
open PySem PySem.Spec PyProof.Rows L2 Tc Px Py
local macro_rules | `(tactic| fail "x1GI0") => `(tactic| first
  | ((with_reducible show GI _ _ _ (Expr.Call (Expr.Name "enumerate" _) _ _ _) _ _); (with_reducible apply gi_enumT); (eq_refl); (eq_refl); (exact Gls.enumerate (by assumption)); (eq_refl))
  )
local macro_rules | `(tactic| fail "x1GI1") => `(tactic| first
  | ((with_reducible show GI _ _ _ (Expr.Call (Expr.Name "range" _) [_] _ _) _ _); (with_reducible apply gi_rg1); (with_reducible eq_refl); (eq_refl); (exact Gls.range (by assumption)); rotate_left; (eq_refl))
  )
local macro_rules | `(tactic| fail "x1GI2") => `(tactic| first
  | ((with_reducible show GI _ _ _ (Expr.Call (Expr.Name "range" _) [_, _] _ _) _ _); (with_reducible apply gi_rg2); (with_reducible eq_refl); (eq_refl); (exact Gls.range (by assumption)); rotate_left; (eq_refl); (eq_refl))
  )
local macro_rules | `(tactic| fail "x1GI") => `(tactic| first
  | ((with_reducible show GI _ _ _ (Expr.Call (Expr.Name "enumerate" _) _ _ _) _ _); fail "x1GI0")
  | ((with_reducible show GI _ _ _ (Expr.Call (Expr.Name "range" _) [_] _ _) _ _); fail "x1GI1")
  | ((with_reducible show GI _ _ _ (Expr.Call (Expr.Name "range" _) [_, _] _ _) _ _); fail "x1GI2")
  | (with_reducible refine gi_seq ?_)
  )
local macro_rules | `(tactic| fail "x1GE3") => `(tactic| first
  | ((with_reducible show GE _ _ (Expr.Call (Expr.Name "isinstance" _) [_, Expr.Name _ _] _ _) _ _); (with_reducible apply ge_isC); (case k => with_reducible assumption); (exact ⟨rfl, rfl, rfl, rfl, rfl⟩); (assumption); (eq_refl); (eq_refl); (exact Gls.isinstance (by assumption)); (eq_refl); rotate_left; (exact star_cons rfl); (exact star_cons rfl); (eq_refl); (decide))
  )
local macro_rules | `(tactic| fail "x1GE4") => `(tactic| first
  | ((with_reducible show GE _ _ (Expr.Call (Expr.Name _ _) (_ :: _) [] _) _ _); (with_reducible apply ge_make); (case M => with_reducible assumption); (exact ⟨rfl, rfl, rfl, rfl, rfl⟩); (first | with_reducible assumption | exact Bod.toCxt (by with_reducible assumption) | exact Cxt.blk (Bod.toCxt (by with_reducible assumption)) _ _ _ _ _ _ | exact Cxt.blk (Cxt.blk (Bod.toCxt (by with_reducible assumption)) _ _ _ _ _ _) _ _ _ _ _ _); (eq_refl); (eq_refl); (first | with_reducible assumption | exact Exc.none); rotate_left; (decide); (exact star_cons rfl); (eq_refl))
  )
local macro_rules | `(tactic| fail "x1GE5") => `(tactic| first
  | ((with_reducible show GE _ _ (Expr.Attribute _ _ _) _ _); (with_reducible apply ge_prop); (case D => with_reducible assumption); (exact ⟨rfl, rfl, rfl, rfl, rfl⟩); (first | with_reducible assumption | exact Bod.toCxt (by with_reducible assumption) | exact Cxt.blk (Bod.toCxt (by with_reducible assumption)) _ _ _ _ _ _ | exact Cxt.blk (Cxt.blk (Bod.toCxt (by with_reducible assumption)) _ _ _ _ _ _) _ _ _ _ _ _); (eq_refl); rotate_left; (eq_refl))
  )
local macro_rules | `(tactic| fail "x1GE6") => `(tactic| first
  | (with_reducible refine ge_int ?_)
  | (with_reducible refine ge_str ?_)
  | (with_reducible refine ge_bool ?_)
  | (with_reducible refine ge_none ?_)
  )
local macro_rules | `(tactic| fail "x1GE7") => `(tactic| first
  | ((with_reducible show GE _ _ (Expr.Name _ _) _ _); (with_reducible apply name_e); (eq_refl); (eq_refl); (eq_refl); rotate_left; (decide); (decide))
  | ((with_reducible show GE _ _ (Expr.Name _ _) _ _); (with_reducible apply name_give); (eq_refl); (eq_refl); (eq_refl); rotate_left; (decide); (decide))
  | ((with_reducible show GE _ _ (Expr.Name _ _) _ _); (with_reducible apply num_e); (case hm => with_reducible assumption); (exact ⟨rfl, rfl, rfl, rfl, rfl⟩); (eq_refl); rotate_left; (decide))
  )
local macro_rules | `(tactic| fail "x1GE8") => `(tactic| first
  | (with_reducible refine ge_one ?_)
  | (with_reducible refine ge_and ?_)
  | (with_reducible refine ge_or ?_)
  )
local macro_rules | `(tactic| fail "x1GE9") => `(tactic| first
  | ((with_reducible show GE _ _ (Expr.Compare _ [CmpOp.Eq] _ _) _ _); (with_reducible apply ge_eq); (first | with_reducible assumption | exact Bod.toCxt (by with_reducible assumption) | exact Cxt.blk (Bod.toCxt (by with_reducible assumption)) _ _ _ _ _ _ | exact Cxt.blk (Cxt.blk (Bod.toCxt (by with_reducible assumption)) _ _ _ _ _ _) _ _ _ _ _ _))
  )
local macro_rules | `(tactic| fail "x1GE10") => `(tactic| first
  | (with_reducible refine ge_add ?_)
  | (with_reducible refine ge_sub ?_)
  | (with_reducible refine ge_mul ?_)
  | (with_reducible refine ge_mod ?_)
  | (with_reducible refine ge_fdiv ?_)
  | (with_reducible refine ge_pow ?_)
  )
local macro_rules | `(tactic| fail "x1GE11") => `(tactic| first
  | ((with_reducible show GE _ _ (Expr.Subscript (Expr.Name _ _) _ _) _ _); (with_reducible apply ixo_n); (eq_refl); (eq_refl); (eq_refl); (exact fun _ _ => rfl); rotate_left; (decide); (decide))
  )
local macro_rules | `(tactic| fail "x1GE12") => `(tactic| first
  | ((with_reducible show GE _ _ (Expr.Call (Expr.Name "len" _) _ _ _) _ _); (with_reducible apply ge_len); (with_reducible eq_refl); (eq_refl); (exact Gls.len (by assumption)); rotate_left; (exact star_cons rfl))
  )
local macro_rules | `(tactic| fail "x1GE13") => `(tactic| first
  | ((with_reducible show GE _ _ (Expr.Call (Expr.Name "isinstance" _) [_, Expr.Name "int" _] _ _) _ _); (with_reducible apply isi_int); (with_reducible eq_refl); (with_reducible eq_refl); (eq_refl); (exact Gls.isinstance (by assumption)); (eq_refl); (exact Gls.int (by assumption)); (exact star_cons rfl); (exact star_cons rfl); (eq_refl))
  )
local macro_rules | `(tactic| fail "x1GE14") => `(tactic| first
  | ((with_reducible show GE _ _ (Expr.Call (Expr.Name "isinstance" _) [_, Expr.Name "bool" _] _ _) _ _); (with_reducible apply isi_bool); (with_reducible eq_refl); (with_reducible eq_refl); (eq_refl); (exact Gls.isinstance (by assumption)); (eq_refl); (exact Gls.bool (by assumption)); (exact star_cons rfl); (exact star_cons rfl); (eq_refl))
  )
local macro_rules | `(tactic| fail "x1GE15") => `(tactic| first
  | ((with_reducible show GE _ _ (Expr.Call (Expr.Name "isinstance" _) [_, Expr.Name "tuple" _] _ _) _ _); (with_reducible apply isi_tuple); (with_reducible eq_refl); (with_reducible eq_refl); (eq_refl); (exact Gls.isinstance (by assumption)); (eq_refl); (exact Gls.tuple (by assumption)); (exact star_cons rfl); (exact star_cons rfl); (eq_refl))
  )
local macro_rules | `(tactic| fail "x1GE16") => `(tactic| first
  | ((with_reducible show GE _ _ (Expr.Call (Expr.Name "isinstance" _) [_, Expr.Name "str" _] _ _) _ _); (with_reducible apply isi_str); (with_reducible eq_refl); (with_reducible eq_refl); (eq_refl); (exact Gls.isinstance (by assumption)); (eq_refl); (exact Gls.str (by assumption)); (exact star_cons rfl); (exact star_cons rfl); (eq_refl))
  )
local macro_rules | `(tactic| fail "x1GE17") => `(tactic| first
  | ((with_reducible show GE _ _ (Expr.Call (Expr.Name "int" _) _ _ _) _ _); (with_reducible apply ge_int1); (with_reducible eq_refl); (eq_refl); (exact Gls.int (by assumption)); rotate_left; (exact star_cons rfl))
  )
local macro_rules | `(tactic| fail "x1GE18") => `(tactic| first
  | ((with_reducible show GE _ _ (Expr.Call (Expr.Name "sum" _) _ _ _) _ _); (with_reducible apply ge_sum); (eq_refl); (with_reducible eq_refl); (eq_refl); (exact Gls.sum (by assumption)); rotate_left; (exact star_cons rfl))
  )
local macro_rules | `(tactic| fail "x1GE19") => `(tactic| first
  | ((with_reducible show GE _ _ (Expr.Call (Expr.Name "max" _) [_] _ _) _ _); (with_reducible apply ge_max1); (eq_refl); (first | with_reducible assumption | exact Bod.toCxt (by with_reducible assumption) | exact Cxt.blk (Bod.toCxt (by with_reducible assumption)) _ _ _ _ _ _ | exact Cxt.blk (Cxt.blk (Bod.toCxt (by with_reducible assumption)) _ _ _ _ _ _) _ _ _ _ _ _); (with_reducible eq_refl); (eq_refl); (exact Gls.max (by assumption)); rotate_left; (exact star_cons rfl))
  )
local macro_rules | `(tactic| fail "x1GE20") => `(tactic| first
  | ((with_reducible show GE _ _ (Expr.Call (Expr.Name "min" _) [_] _ _) _ _); (with_reducible apply ge_min1); (eq_refl); (with_reducible eq_refl); (eq_refl); (exact Gls.min (by assumption)); rotate_left; (exact star_cons rfl))
  )
local macro_rules | `(tactic| fail "x1GE21") => `(tactic| first
  | ((with_reducible show GE _ _ (Expr.Call (Expr.Name "all" _) _ _ _) _ _); (with_reducible apply ge_all); (eq_refl); (with_reducible eq_refl); (eq_refl); (exact Gls.all (by assumption)); rotate_left; (exact star_cons rfl))
  )
local macro_rules | `(tactic| fail "x1GE22") => `(tactic| first
  | ((with_reducible show GE _ _ (Expr.Call (Expr.Name "repr" _) _ _ _) _ _); (with_reducible apply ge_repr); (first | with_reducible assumption | exact Bod.toCxt (by with_reducible assumption) | exact Cxt.blk (Bod.toCxt (by with_reducible assumption)) _ _ _ _ _ _ | exact Cxt.blk (Cxt.blk (Bod.toCxt (by with_reducible assumption)) _ _ _ _ _ _) _ _ _ _ _ _); (with_reducible eq_refl); (eq_refl); (exact Gls.repr (by assumption)); rotate_left; (exact star_cons rfl))
  )
local macro_rules | `(tactic| fail "x1GE23") => `(tactic| first
  | ((with_reducible show GE _ _ (Expr.Call (Expr.Name "min" _) [_, _] _ _) _ _); (with_reducible apply ge_min2); (eq_refl); (with_reducible eq_refl); (eq_refl); (exact Gls.min (by assumption)); rotate_left; (exact star_cons rfl); (eq_refl))
  )
local macro_rules | `(tactic| fail "x1GE24") => `(tactic| first
  | ((with_reducible show GE _ _ (Expr.Call (Expr.Name "max" _) [_, _] _ _) _ _); (with_reducible apply ge_max2); (eq_refl); (with_reducible eq_refl); (eq_refl); (exact Gls.max (by assumption)); rotate_left; (exact star_cons rfl); (eq_refl))
  )
local macro_rules | `(tactic| fail "x1GE25") => `(tactic| first
  | ((with_reducible show GE _ _ (Expr.Call (Expr.Name "divmod" _) _ _ _) _ _); (with_reducible apply ge_divmod); (with_reducible eq_refl); (eq_refl); (exact Gls.divmod (by assumption)); rotate_left; (exact star_cons rfl); (eq_refl))
  )
local macro_rules | `(tactic| fail "x1GE26") => `(tactic| first
  | ((with_reducible show GE _ _ (Expr.Call (Expr.Name "tuple" _) _ _ _) _ _); (with_reducible apply ge_tupL); (with_reducible eq_refl); (eq_refl); (exact Gls.tuple (by assumption)); rotate_left; (exact star_cons rfl))
  )
local macro_rules | `(tactic| fail "x1GE27") => `(tactic| first
  | ((with_reducible show GE _ _ (Expr.Call (Expr.Name _ _) (_ :: _) [] _) _ _); (with_reducible apply call_e); (case F => with_reducible assumption); (exact ⟨rfl, rfl, rfl, rfl, rfl⟩); (first | with_reducible assumption | exact Bod.toCxt (by with_reducible assumption) | exact Cxt.blk (Bod.toCxt (by with_reducible assumption)) _ _ _ _ _ _ | exact Cxt.blk (Cxt.blk (Bod.toCxt (by with_reducible assumption)) _ _ _ _ _ _) _ _ _ _ _ _); (eq_refl); (eq_refl); (first | with_reducible assumption | exact Exc.none); rotate_left; (decide); (exact star_cons rfl); (eq_refl))
  | ((with_reducible show GE _ _ (Expr.Call (Expr.Name _ _) (_ :: _) [] _) _ _); (with_reducible apply pail_e); (case F => with_reducible assumption); (exact ⟨rfl, rfl, rfl, rfl, rfl⟩); (first | with_reducible assumption | exact Bod.toCxt (by with_reducible assumption) | exact Cxt.blk (Bod.toCxt (by with_reducible assumption)) _ _ _ _ _ _ | exact Cxt.blk (Cxt.blk (Bod.toCxt (by with_reducible assumption)) _ _ _ _ _ _) _ _ _ _ _ _); (eq_refl); (eq_refl); (first | with_reducible assumption | exact Exc.none); (eq_refl); (eq_refl); (eq_refl); rotate_left; (decide); (decide); (decide); (exact star_cons rfl); (eq_refl))
  )
local macro_rules | `(tactic| fail "x1GE") => `(tactic| first
  | ((with_reducible show GE _ _ (Expr.Compare _ [CmpOp.LtE, CmpOp.LtE, CmpOp.LtE] _ _) _ _); (with_reducible apply ge_lelele); (with_unfolding_all rfl))
  | ((with_reducible show GE _ _ (Expr.Compare _ [CmpOp.In] _ _) _ _); (with_reducible apply ge_in true); (eq_refl))
  | ((with_reducible show GE _ _ (Expr.Call (Expr.Name "isinstance" _) [_, Expr.Name _ _] _ _) _ _); fail "x1GE3")
  | ((with_reducible show GE _ _ (Expr.Call (Expr.Name _ _) (_ :: _) [] _) _ _); fail "x1GE4")
  | ((with_reducible show GE _ _ (Expr.Attribute _ _ _) _ _); fail "x1GE5")
  | ((with_reducible show GE _ _ (Expr.Constant _ _ _) _ _); fail "x1GE6")
  | ((with_reducible show GE _ _ (Expr.Name _ _) _ _); fail "x1GE7")
  | ((with_reducible show GE _ _ (Expr.Compare _ [CmpOp.LtE, CmpOp.LtE] _ _) _ _); (with_reducible apply ge_lele); (with_unfolding_all rfl))
  | ((with_reducible show GE _ _ (Expr.BoolOp _ _ _) _ _); fail "x1GE8")
  | (with_reducible refine ge_not ?_)
  | (with_reducible refine ge_if ?_)
  | ((with_reducible show GE _ _ (Expr.Compare _ [CmpOp.Eq] _ _) _ _); fail "x1GE9")
  | (with_reducible refine ge_ge ?_)
  | ((with_reducible show GE _ _ (Expr.BinOp _ _ _ _) _ _); fail "x1GE10")
  | (with_reducible refine ge_slice ?_)
  | ((with_reducible show GE _ _ (Expr.Subscript (Expr.Name _ _) _ _) _ _); fail "x1GE11")
  | ((with_reducible show GE _ _ (Expr.Subscript _ _ _) _ _); (with_reducible apply ge_ix); (exact fun _ _ => rfl))
  | (with_reducible refine ge_tup ?_)
  | (with_reducible refine ge_joined ?_)
  | (with_reducible refine ge_joined1 ?_)
  | (with_reducible refine ge_fmt ?_)
  | ((with_reducible show GE _ _ (Expr.Call (Expr.Name "len" _) _ _ _) _ _); fail "x1GE12")
  | ((with_reducible show GE _ _ (Expr.Call (Expr.Name "isinstance" _) [_, Expr.Name "int" _] _ _) _ _); fail "x1GE13")
  | ((with_reducible show GE _ _ (Expr.Call (Expr.Name "isinstance" _) [_, Expr.Name "bool" _] _ _) _ _); fail "x1GE14")
  | ((with_reducible show GE _ _ (Expr.Call (Expr.Name "isinstance" _) [_, Expr.Name "tuple" _] _ _) _ _); fail "x1GE15")
  | ((with_reducible show GE _ _ (Expr.Call (Expr.Name "isinstance" _) [_, Expr.Name "str" _] _ _) _ _); fail "x1GE16")
  | ((with_reducible show GE _ _ (Expr.Call (Expr.Name "int" _) _ _ _) _ _); fail "x1GE17")
  | ((with_reducible show GE _ _ (Expr.Call (Expr.Name "sum" _) _ _ _) _ _); fail "x1GE18")
  | ((with_reducible show GE _ _ (Expr.Call (Expr.Name "max" _) [_] _ _) _ _); fail "x1GE19")
  | ((with_reducible show GE _ _ (Expr.Call (Expr.Name "min" _) [_] _ _) _ _); fail "x1GE20")
  | ((with_reducible show GE _ _ (Expr.Call (Expr.Name "all" _) _ _ _) _ _); fail "x1GE21")
  | ((with_reducible show GE _ _ (Expr.Call (Expr.Name "repr" _) _ _ _) _ _); fail "x1GE22")
  | ((with_reducible show GE _ _ (Expr.Call (Expr.Name "min" _) [_, _] _ _) _ _); fail "x1GE23")
  | ((with_reducible show GE _ _ (Expr.Call (Expr.Name "max" _) [_, _] _ _) _ _); fail "x1GE24")
  | ((with_reducible show GE _ _ (Expr.Call (Expr.Name "divmod" _) _ _ _) _ _); fail "x1GE25")
  | ((with_reducible show GE _ _ (Expr.Call (Expr.Name "tuple" _) _ _ _) _ _); fail "x1GE26")
  | ((with_reducible show GE _ _ (Expr.Call (Expr.Attribute _ "isascii" _) _ _ _) _ _); (with_reducible apply ge_isascii); rotate_left; (eq_refl); (eq_refl))
  | ((with_reducible show GE _ _ (Expr.Call (Expr.Attribute _ "join" _) _ _ _) _ _); (with_reducible apply ge_join); rotate_left; (eq_refl); (eq_refl); (eq_refl))
  | ((with_reducible show GE _ _ (Expr.Call (Expr.Name _ _) (_ :: _) [] _) _ _); fail "x1GE27")
  | ((with_reducible show GE _ _ (Expr.List _ _) _ _); (with_reducible refine ge_ofF ?_))
  | ((with_reducible show GE _ _ (Expr.ListComp _ _ _ _) _ _); (with_reducible refine ge_ofF ?_))
  | ((with_reducible show GE _ _ (Expr.BinOp _ _ _ _) _ _); (with_reducible refine ge_ofF ?_))
  | ((with_reducible show GE _ _ (Expr.Call _ _ _ _) _ _); (with_reducible refine ge_ofF ?_))
  | (with_reducible refine ge_neg ?_)
  )
local macro_rules | `(tactic| fail "x1GA") => `(tactic| first
  | ((with_reducible show GA _ _ (Expr.Starred (Expr.ListComp _ _ _ _) _ :: _) _ _); (with_reducible apply ga_star true); rotate_left; (eq_refl))
  | ((with_reducible show GA _ _ (Expr.Starred (Expr.Subscript _ _ _) _ :: _) _ _); (with_reducible apply ga_star true); rotate_left; (eq_refl))
  | ((with_reducible show GA _ _ (_ :: _) _ _); (with_reducible apply ga_cons); rotate_left; (exact star_cons rfl))
  | (with_reducible refine ga_nil ?_)
  )
local macro_rules | `(tactic| fail "x1GQ") => `(tactic| first
  | ((with_reducible show GQ _ _ true (Expr.Subscript _ (Expr.Slice none none (some _) _) _) _ _); (with_reducible refine gq_ofF ?_))
  | ((with_reducible show GQ _ _ _ (Expr.Name _ _) _ _); (with_reducible apply name_q); (eq_refl); (eq_refl); (eq_refl); rotate_left; (decide); (decide))
  | ((with_reducible show GQ _ _ true (Expr.List _ _) _ _); (with_reducible refine gq_ofF ?_))
  | ((with_reducible show GQ _ _ true (Expr.ListComp _ _ _ _) _ _); (with_reducible refine gq_ofF ?_))
  | ((with_reducible show GQ _ _ true (Expr.BinOp _ _ _ _) _ _); (with_reducible refine gq_ofF ?_))
  | ((with_reducible show GQ _ _ true (Expr.Call _ _ _ _) _ _); (with_reducible refine gq_ofF ?_))
  )
local macro_rules | `(tactic| fail "x1G128") => `(tactic| first
  | ((with_reducible show G1 _ _ (Stmt.Assign [Expr.Tuple [Expr.Name _ _, Expr.Name _ _] _ _] (Expr.Tuple _ _ _) _) _ _); (with_reducible apply par_n); (with_reducible assumption); (assumption); (eq_refl); (eq_refl); (eq_refl); (eq_refl); (eq_refl); (eq_refl); (eq_refl); (eq_refl))
  )
local macro_rules | `(tactic| fail "x1G129") => `(tactic| first
  | ((with_reducible show G1 _ _ (Stmt.Assign [Expr.Name _ _] _ _) _ _); (with_reducible apply set_e); (with_reducible assumption); (eq_refl); (eq_refl); rotate_left; (eq_refl))
  | ((with_reducible show G1 _ _ (Stmt.Assign [Expr.Name _ _] _ _) _ _); (with_reducible apply set_cell); (with_reducible assumption); (eq_refl); (eq_refl); rotate_left; (eq_refl); (eq_refl))
  )
local macro_rules | `(tactic| fail "x1G130") => `(tactic| first
  | ((with_reducible show G1 _ _ (Stmt.Assign [Expr.Subscript (Expr.Name _ _) _ _] _ _) _ _); (with_reducible apply put_n); (eq_refl); (eq_refl); (eq_refl); rotate_left; (decide); (decide); (intro _; eq_refl); (eq_refl); (eq_refl); (eq_refl))
  )
local macro_rules | `(tactic| fail "x1G1") => `(tactic| first
  | ((with_reducible show G1 _ _ (Stmt.Assign [Expr.Tuple [Expr.Name _ _, Expr.Name _ _] _ _] (Expr.Tuple _ _ _) _) _ _); fail "x1G128")
  | ((with_reducible show G1 _ _ (Stmt.For _ _ _ _ _) _ _); (with_reducible apply g1_for); (with_reducible assumption); rotate_left; (intro _; eq_refl))
  | (with_reducible refine g1_ret ?_)
  | (with_reducible refine g1_if ?_)
  | ((with_reducible show G1 _ _ (Stmt.Assign [Expr.Name _ _] _ _) _ _); fail "x1G129")
  | ((with_reducible show G1 _ _ (Stmt.Expr _ _) _ _); (with_reducible apply g1_expr); rotate_left; (eq_refl))
  | ((with_reducible show G1 _ _ (Stmt.Assign [Expr.Subscript (Expr.Name _ _) _ _] _ _) _ _); fail "x1G130")
  | ((with_reducible show G1 _ _ (Stmt.Assign [Expr.Tuple _ _ _] _ _) _ _); (with_reducible apply asg_t); rotate_left; (eq_refl); (eq_refl); (eq_refl))
  )
local macro_rules | `(tactic| fail "x1GT31") => `(tactic| first
  | ((with_reducible show GT _ _ (Expr.Compare _ [CmpOp.Eq] _ _) _ _); (with_reducible apply gt_eq); (first | with_reducible assumption | exact Bod.toCxt (by with_reducible assumption) | exact Cxt.blk (Bod.toCxt (by with_reducible assumption)) _ _ _ _ _ _ | exact Cxt.blk (Cxt.blk (Bod.toCxt (by with_reducible assumption)) _ _ _ _ _ _) _ _ _ _ _ _))
  )
local macro_rules | `(tactic| fail "x1GT32") => `(tactic| first
  | ((with_reducible show GT _ _ (Expr.Compare _ [CmpOp.NotEq] _ _) _ _); (with_reducible apply gt_ne); (first | with_reducible assumption | exact Bod.toCxt (by with_reducible assumption) | exact Cxt.blk (Bod.toCxt (by with_reducible assumption)) _ _ _ _ _ _ | exact Cxt.blk (Cxt.blk (Bod.toCxt (by with_reducible assumption)) _ _ _ _ _ _) _ _ _ _ _ _))
  )
local macro_rules | `(tactic| fail "x1GT") => `(tactic| first
  | (with_reducible refine gt_not ?_)
  | (with_reducible refine gt_bool ?_)
  | ((with_reducible show GT _ _ (Expr.Compare _ [CmpOp.Eq] _ _) _ _); fail "x1GT31")
  | ((with_reducible show GT _ _ (Expr.Compare _ [CmpOp.NotEq] _ _) _ _); fail "x1GT32")
  | (with_reducible refine gt_lt ?_)
  | (with_reducible refine gt_gt ?_)
  | (with_reducible refine gt_isN ?_)
  | (with_reducible refine gt_notN ?_)
  | ((with_reducible show GT _ _ _ _ _); (with_reducible apply gt_ofE); rotate_left; (intro _; eq_refl))
  )
local macro_rules | `(tactic| fail "x1GW") => `(tactic| first
  | (with_reducible refine gw_or1 ?_)
  | (with_reducible refine gw_and1 ?_)
  | (with_reducible refine gw_or ?_)
  | (with_reducible refine gw_and ?_)
  )
local macro_rules | `(tactic| fail "x1GC33") => `(tactic| first
  | ((with_reducible show GC _ _ _ (Expr.Name _ _) _ _ _); (with_reducible apply gc_n); (with_reducible assumption); (eq_refl); (eq_refl); (eq_refl); (first | exact .inl rfl | exact .inr rfl); (eq_refl))
  )
local macro_rules | `(tactic| fail "x1GCs34") => `(tactic| first
  | ((with_reducible show GCs _ _ _ (Expr.Name _ _ :: _) _ _ _); (with_reducible apply gcs_n); (with_reducible assumption); (eq_refl); (eq_refl); (eq_refl); (first | exact .inl rfl | exact .inr rfl); (eq_refl); rotate_left; (eq_refl))
  )
local macro_rules | `(tactic| fail "x1GG35") => `(tactic| first
  | ((with_reducible show GG _ _ (Expr.Name _ _) _ _ _); (with_reducible apply gg_n); (with_reducible assumption); (eq_refl); (eq_refl); (eq_refl); (first | exact .inl rfl | exact .inr rfl))
  )
local macro_rules | `(tactic| fail "x1GG36") => `(tactic| first
  | ((with_reducible show GG _ _ (Expr.Subscript (Expr.Name _ _) _ _) _ _ _); (with_reducible apply gg_put); (eq_refl); (eq_refl); (eq_refl); rotate_left; (decide); (decide); (intro _; eq_refl))
  )
local macro_rules | `(tactic| fail "x1GG") => `(tactic| first
  | ((with_reducible show GG _ _ (Expr.Tuple _ _ _) _ _ _); (with_reducible apply gg_t); (eq_refl); (eq_refl); (eq_refl); (eq_refl))
  | ((with_reducible show GG _ _ (Expr.Name _ _) _ _ _); fail "x1GG35")
  | ((with_reducible show GG _ _ (Expr.Subscript (Expr.Name _ _) _ _) _ _ _); fail "x1GG36")
  )
local macro_rules | `(tactic| fail "x1GGs37") => `(tactic| first
  | ((with_reducible show GGs _ _ (Expr.Name _ _ :: _) _ _ _); (with_reducible apply ggs_n); (with_reducible assumption); (eq_refl); (eq_refl); (eq_refl); (first | exact .inl rfl | exact .inr rfl); rotate_left; (eq_refl))
  )
local macro_rules | `(tactic| fail "x1GGs38") => `(tactic| first
  | ((with_reducible show GGs _ _ (Expr.Subscript (Expr.Name _ _) (Expr.Constant _ _ _) _ :: _) _ _ _); (with_reducible apply ggs_put0); (eq_refl); (eq_refl); (eq_refl); (eq_refl); rotate_left; (decide); (decide); (intro _; eq_refl); (eq_refl))
  )
local macro_rules | `(tactic| fail "x1GGs") => `(tactic| first
  | (with_reducible refine ggs_nil ?_)
  | ((with_reducible show GGs _ _ (Expr.Name _ _ :: _) _ _ _); fail "x1GGs37")
  | ((with_reducible show GGs _ _ (Expr.Subscript (Expr.Name _ _) (Expr.Constant _ _ _) _ :: _) _ _ _); fail "x1GGs38")
  )
local macro_rules | `(tactic| fail "x1mi39") => `(tactic| first
  | ((with_reducible show ∃ k0 : Int, _ = PyData.int k0 ∧ (0 ≤ k0 ∧ k0 ≤ 1000) ∧ _); refine ⟨_, rfl, ⟨by first | decide | omega, by first | decide | omega⟩, Nat.le_of_ble_eq_true rfl, ?_⟩)
  )
local macro_rules | `(tactic| fail "x1mi40") => `(tactic| first
  | ((with_reducible show MulD (PyData.int _) (PyData.int _) _); (with_reducible apply mul_ii); (first | exact .inl (.inl ⟨by omega, by omega⟩) | exact .inl (.inr ⟨by omega, by omega⟩)))
  )
local macro_rules | `(tactic| fail "x1mi41") => `(tactic| first
  | ((with_reducible show IntD _ _ (PyData.int _) (PyData.int _) _); (with_reducible apply mod_i); (first | decide | omega))
  | ((with_reducible show IntD _ _ (PyData.int _) (PyData.int _) _); (with_reducible apply fdiv_i); (first | decide | omega); (first | decide | omega))
  )
local macro_rules | `(tactic| fail "x1mi") => `(tactic| first
  | ((with_reducible show notI _ = true ∧ _); refine ⟨by first | rfl | assumption, ?_⟩)
  | ((with_reducible show ∀ B0 : Bas, Same _ _ → _); intro _ _ _)
  | ((with_reducible show ∃ k0 : Int, _ = PyData.int k0 ∧ (0 ≤ k0 ∧ k0 ≤ 1000) ∧ _); fail "x1mi39")
  | ((with_reducible show ∀ a0 : Addr, Alone _ a0 → _); intro _ _)
  | (with_reducible refine add_ii ?_)
  | (with_reducible refine int0_i ?_)
  | (with_reducible refine ord_i ?_)
  | (with_reducible refine isN_i ?_)
  | (with_reducible refine notN_i ?_)
  | ((with_reducible show EqD _ _ _); (with_reducible apply eq_p); (eq_refl))
  | ((with_reducible show NeD _ _ _); (with_reducible apply ne_p); (eq_refl))
  | (with_reducible refine len_l ?_)
  | (with_reducible refine len_t ?_)
  | (with_reducible refine seq_l ?_)
  | (with_reducible refine seq_t ?_)
  | (with_reducible refine intf_i ?_)
  | (with_reducible refine sl_t ?_)
  | (with_reducible refine gs_list ?_)
  | (with_reducible refine gs_tup ?_)
  | (with_reducible refine gs_list ?_)
  | (with_reducible refine gs_list ?_)
  | (with_reducible refine gs_list ?_)
  | (with_reducible refine gs_list ?_)
  | ((with_reducible show IxD (PyData.list _) (PyData.int _) _); (with_reducible apply ix_l); (eq_refl))
  | ((with_reducible show IxD (PyData.tuple _) (PyData.int _) _); (with_reducible apply ix_t); (eq_refl))
  | ((with_reducible show MulD (PyData.int _) (PyData.int _) _); fail "x1mi40")
  | ((with_reducible show IntD _ _ (PyData.int _) (PyData.int _) _); fail "x1mi41")
  | ((with_reducible show (_ : List Sl) = _); rfl)
  | ((with_reducible show (∃ ds, _[_]? = some (Sl.own _ ds)) ∧ _); refine ⟨⟨_, rfl⟩, ?_⟩)
  | ((with_reducible show ∃ ds m, _[_]? = some (Sl.own _ ds) ∧ _); refine ⟨_, _, rfl, _, rfl, rfl, ?_⟩)
  | ((with_reducible show ∃ es, _[_]? = some (Sl.own _ es) ∧ _); refine ⟨_, rfl, ?_⟩)
  | ((with_reducible show Blk _ _ _); intro _ _ _ _ _)
  | (with_reducible refine ⟨len_ok rfl, ?_⟩)
  | (with_reducible refine ⟨_, rfl, ?_⟩)
  | (with_reducible refine ⟨_, _, rfl, ?_⟩)
  | (with_reducible refine ⟨rfl, ?_⟩)
  | (with_reducible refine ⟨trivial, ?_⟩)
  )
local macro_rules | `(tactic| infer_instance) => `(tactic| first
  | ((with_reducible show (if _ = true then _ else _)); (with_reducible refine ite_t (by with_reducible rfl) ?_))
  | ((with_reducible show (if _ = true then _ else _)); (with_reducible refine ite_f (by with_reducible exact no_ft) ?_))
  | ((with_reducible show (if _ = true then _ else _)); (with_reducible refine ite_t (by with_reducible exact yes_nf) ?_))
  | ((with_reducible show (if _ = true then _ else _)); (with_reducible refine ite_f (by with_reducible exact no_nt) ?_))
  | ((with_reducible show Out.to _ _ _); (with_reducible refine to_ok ?_))
  | ((with_reducible show GI _ _ _ _ _ _); fail "x1GI")
  | ((with_reducible show GE _ _ _ _ _); fail "x1GE")
  | ((with_reducible show GA _ _ _ _ _); fail "x1GA")
  | ((with_reducible show GQ _ _ _ _ _ _); fail "x1GQ")
  | ((with_reducible show G1 _ _ _ _ _); fail "x1G1")
  | ((with_reducible show GF _ _ (Expr.BinOp (Expr.List _ _) Operator.Mult _ _) _ _); (with_reducible refine gf_rep ?_))
  | (with_reducible refine gf_list ?_)
  | (with_reducible refine gs_cons ?_)
  | ((with_reducible show GB _ _ (Expr.Name _ _) _ _); (with_reducible apply name_b); (eq_refl); (eq_refl); (eq_refl); rotate_left; (decide); (decide))
  | (with_reducible refine gb_of ?_)
  | ((with_reducible show GT _ _ _ _ _); fail "x1GT")
  | ((with_reducible show GW _ _ _ _ _); fail "x1GW")
  | (with_reducible refine go_none ?_)
  | (with_reducible refine go_some ?_)
  | (with_reducible refine gp_nil ?_)
  | (with_reducible refine gp_one ?_)
  | ((with_reducible show GC _ _ _ (Expr.Name _ _) _ _ _); fail "x1GC33")
  | ((with_reducible show GC _ _ _ (Expr.Tuple _ _ _) _ _ _); (with_reducible apply gc_t); (eq_refl); (eq_refl); (eq_refl); (eq_refl))
  | ((with_reducible show GCs _ _ _ (Expr.Name _ _ :: _) _ _ _); fail "x1GCs34")
  | (with_reducible refine gcs_nil ?_)
  | ((with_reducible show GG _ _ _ _ _ _); fail "x1GG")
  | ((with_reducible show GGs _ _ _ _ _ _); fail "x1GGs")
  | fail "x1mi"
  )
local macro_rules | `(tactic| fail "x2G10") => `(tactic| first
  | ((with_reducible show G1 _ _ (Stmt.Expr (Expr.Call (Expr.Attribute (Expr.Name _ _) "extend" _) [_] _ _) _) _ _); (with_reducible apply g1_extend); (eq_refl); (eq_refl); (eq_refl); rotate_left; (decide); (decide); (eq_refl); (eq_refl); (eq_refl); (exact star_cons rfl); (eq_refl))
  )
local macro_rules | `(tactic| fail "x2G11") => `(tactic| first
  | ((with_reducible show G1 _ _ (Stmt.Assign [Expr.Name _ _] (Expr.List _ _) _) _ _); (with_reducible apply set_l); (with_reducible assumption); (eq_refl); (eq_refl); rotate_left; (eq_refl))
  | ((with_reducible show G1 _ _ (Stmt.Assign [Expr.Name _ _] (Expr.List _ _) _) _ _); (with_reducible apply set_lc); (with_reducible assumption); (eq_refl); (eq_refl); rotate_left; (eq_refl); (eq_refl))
  )
local macro_rules | `(tactic| fail "x2G12") => `(tactic| first
  | ((with_reducible show G1 _ _ (Stmt.Assign [Expr.Name _ _] (Expr.Call (Expr.Name "list" _) [_] _ _) _) _ _); (with_reducible apply set_l); (with_reducible assumption); (eq_refl); (eq_refl); rotate_left; (eq_refl))
  | ((with_reducible show G1 _ _ (Stmt.Assign [Expr.Name _ _] (Expr.Call (Expr.Name "list" _) [_] _ _) _) _ _); (with_reducible apply set_lc); (with_reducible assumption); (eq_refl); (eq_refl); rotate_left; (eq_refl); (eq_refl))
  )
local macro_rules | `(tactic| fail "x2G13") => `(tactic| first
  | ((with_reducible show G1 _ _ (Stmt.Assign [Expr.Tuple [Expr.Name _ _, Expr.Name _ _] _ _] (Expr.Tuple [Expr.BinOp (Expr.List _ _) Operator.Mult _ _, _] _ _) _) _ _); (with_reducible apply par_onC); (with_reducible assumption); (assumption); (eq_refl); (eq_refl); (eq_refl); (eq_refl); (eq_refl); (first | exact .inl rfl | exact .inr rfl); (first | exact .inl rfl | exact .inr rfl); (eq_refl); (eq_refl); (eq_refl); (eq_refl); (eq_refl); (eq_refl); (eq_refl); (exact star_cons rfl); (exact star_cons rfl))
  )
local macro_rules | `(tactic| fail "x2G14") => `(tactic| first
  | ((with_reducible show G1 _ _ (Stmt.Expr (Expr.Call (Expr.Attribute (Expr.Name _ _) "append" _) [_] _ _) _) _ _); (with_reducible apply g1_append); (eq_refl); (eq_refl); (eq_refl); rotate_left; (decide); (decide); (eq_refl); (eq_refl); (eq_refl); (exact star_cons rfl); (eq_refl))
  )
local macro_rules | `(tactic| fail "x2G1") => `(tactic| first
  | ((with_reducible show G1 _ _ (Stmt.Expr (Expr.Call (Expr.Attribute (Expr.Name _ _) "extend" _) [_] _ _) _) _ _); fail "x2G10")
  | ((with_reducible show G1 _ _ (Stmt.Assign [Expr.Name _ _] (Expr.List _ _) _) _ _); fail "x2G11")
  | ((with_reducible show G1 _ _ (Stmt.Assign [Expr.Name _ _] (Expr.Call (Expr.Name "list" _) [_] _ _) _) _ _); fail "x2G12")
  | ((with_reducible show G1 _ _ (Stmt.Assign [Expr.Tuple [Expr.Name _ _, Expr.Name _ _] _ _] (Expr.Tuple [Expr.BinOp (Expr.List _ _) Operator.Mult _ _, _] _ _) _) _ _); fail "x2G13")
  | ((with_reducible show G1 _ _ (Stmt.Expr (Expr.Call (Expr.Attribute (Expr.Name _ _) "append" _) [_] _ _) _) _ _); fail "x2G14")
  )
local macro_rules | `(tactic| fail "x2GI5") => `(tactic| first
  | ((with_reducible show GI _ _ _ (Expr.Call (Expr.Name "reversed" _) [Expr.Call (Expr.Name "range" _) [_] _ _] _ _) _ _); (with_reducible apply gi_revR); (eq_refl); (eq_refl); (exact Gls.reversed (by assumption)); (eq_refl); (eq_refl); (exact Gls.range (by assumption)); (exact star_cons rfl); (exact star_cons rfl))
  )
local macro_rules | `(tactic| fail "x2GE6") => `(tactic| first
  | ((with_reducible show GE _ _ (Expr.Subscript (Expr.Name _ _) _ _) _ _); (with_reducible apply ix_v); (case L => with_reducible assumption); (eq_refl); (eq_refl); (eq_refl); (eq_refl); (exact fun _ _ => rfl); rotate_left; (decide); (decide))
  )
local macro_rules | `(tactic| fail "x2GE7") => `(tactic| first
  | ((with_reducible show GE _ _ (Expr.Call (Expr.Name "len" _) [_] _ _) _ _); (with_reducible apply ge_lenI); (case L => with_reducible assumption); (exact ⟨rfl, rfl, rfl, rfl, rfl⟩); (first | with_reducible assumption | exact Bod.toCxt (by with_reducible assumption) | exact Cxt.blk (Bod.toCxt (by with_reducible assumption)) _ _ _ _ _ _ | exact Cxt.blk (Cxt.blk (Bod.toCxt (by with_reducible assumption)) _ _ _ _ _ _) _ _ _ _ _ _); (eq_refl); (with_reducible eq_refl); (eq_refl); (exact Gls.len (by assumption)); rotate_left; (exact star_cons rfl))
  )
local macro_rules | `(tactic| fail "x2GE8") => `(tactic| first
  | ((with_reducible show GE _ _ (Expr.Call (Expr.Name _ _) [_, _] [] _) _ _); (with_reducible apply ge_callL); (case F => with_reducible assumption); (exact ⟨rfl, rfl, rfl, rfl, rfl⟩); (first | with_reducible assumption | exact Bod.toCxt (by with_reducible assumption) | exact Cxt.blk (Bod.toCxt (by with_reducible assumption)) _ _ _ _ _ _ | exact Cxt.blk (Cxt.blk (Bod.toCxt (by with_reducible assumption)) _ _ _ _ _ _) _ _ _ _ _ _); (eq_refl); (eq_refl); (first | with_reducible assumption | exact Exc.none); rotate_left; (decide); (exact star_cons rfl); (exact star_cons rfl); (eq_refl))
  )
local macro_rules | `(tactic| fail "x2GE") => `(tactic| first
  | ((with_reducible show GE _ _ (Expr.Call (Expr.Attribute _ "isalpha" _) _ _ _) _ _); (with_reducible apply ge_isalpha); rotate_left; (eq_refl); (eq_refl))
  | ((with_reducible show GE _ _ (Expr.Call (Expr.Attribute _ "islower" _) _ _ _) _ _); (with_reducible apply ge_islower); rotate_left; (eq_refl); (eq_refl))
  | ((with_reducible show GE _ _ (Expr.Subscript (Expr.Name _ _) _ _) _ _); fail "x2GE6")
  | ((with_reducible show GE _ _ (Expr.Call (Expr.Name "len" _) [_] _ _) _ _); fail "x2GE7")
  | ((with_reducible show GE _ _ (Expr.Call (Expr.Name _ _) [_, _] [] _) _ _); fail "x2GE8")
  )
local macro_rules | `(tactic| fail "x2GQ9") => `(tactic| first
  | ((with_reducible show GQ _ _ true (Expr.Name _ _) _ _); (with_reducible apply gq_v); (case L => with_reducible assumption); (eq_refl); (eq_refl); (eq_refl); (eq_refl); rotate_left; (decide); (decide))
  )
local macro_rules | `(tactic| fail "x2GF10") => `(tactic| first
  | ((with_reducible show GF _ _ (Expr.Call (Expr.Name "list" _) [_] _ _) _ _); (refine gf_list1 false rfl ?_ ?_ ?_ (star_cons rfl)); (eq_refl); (exact Gls.list (by assumption)))
  )
local macro_rules | `(tactic| infer_instance) => `(tactic| first
  | ((with_reducible show G1 _ _ _ _ _); fail "x2G1")
  | ((with_reducible show GI _ _ _ (Expr.Call (Expr.Name "reversed" _) [Expr.Call (Expr.Name "range" _) [_] _ _] _ _) _ _); fail "x2GI5")
  | ((with_reducible show GE _ _ _ _ _); fail "x2GE")
  | ((with_reducible show GQ _ _ true (Expr.Name _ _) _ _); fail "x2GQ9")
  | ((with_reducible show GQ _ _ false (Expr.Name _ _) _ _); (with_reducible refine gq_of ?_))
  | ((with_reducible show GF _ _ (Expr.Call (Expr.Name "list" _) [_] _ _) _ _); fail "x2GF10")
  | ((with_reducible show GA _ _ (Expr.Starred (Expr.Name _ _) _ :: _) _ _); (with_reducible apply ga_star true); rotate_left; (eq_refl))
  | ((with_reducible show ∃ d1 d2 d3, _ = [d1, d2, d3] ∧ _); refine ⟨_, _, _, rfl, rfl, rfl, rfl, ?_⟩)
  | ((with_reducible show ∀ B0 : Bas, GE B0 _ _ _ _); intro _)
  | ((with_reducible show ∃ ds0, _ = (if false = true then PyData.list ds0 else PyData.tuple ds0) ∧ _); refine ⟨_, rfl, ?_⟩)
  )
namespace K13
open PySem PySem.Spec PyProof.Rows L2 Tc
def topS (i : Nat) : Stmt := PySem.Challenge.pw_toldcounts_k13_whole_guesses_for_areas.main.body.getD i (.Pass ⟨0, 0, 0, 0⟩)
abbrev s_is_integer : Stmt := topS 16
abbrev s_is_number : Stmt := topS 17
abbrev s_are_numbers : Stmt := topS 18
abbrev s_is_name : Stmt := topS 19
abbrev s_wrong_at : Stmt := topS 20
abbrev s_unit : Stmt := topS 21
abbrev s_number_with : Stmt := topS 22
abbrev s_read_number : Stmt := topS 23
abbrev s_is_stretch : Stmt := topS 25
abbrev s_lies_in : Stmt := topS 26
abbrev s_text_of_stretch : Stmt := topS 27
abbrev s_stretch_in_text : Stmt := topS 28
abbrev s_is_line : Stmt := topS 31
abbrev s_need_lines : Stmt := topS 32
abbrev s_line_text : Stmt := topS 33
abbrev s_read_line : Stmt := topS 34
abbrev s_read_lines : Stmt := topS 35
abbrev s_need_areas : Stmt := topS 36
abbrev s_is_area : Stmt := topS 37
abbrev s_need_area : Stmt := topS 38
abbrev s_index_of_area : Stmt := topS 39
abbrev s_stretches_of : Stmt := topS 40
abbrev s_parents_of : Stmt := topS 42
abbrev s_parts_of : Stmt := topS 43
abbrev s_upward_ranges : Stmt := topS 44
abbrev s_tree_ranges : Stmt := topS 45
abbrev s_is_count : Stmt := topS 47
abbrev s_need_count : Stmt := topS 48
abbrev s_total : Stmt := topS 49
abbrev s_need_areas_named : Stmt := topS 51
abbrev s_need_width : Stmt := topS 52
abbrev s_need_page : Stmt := topS 53
abbrev s_guesses : Stmt := topS 54
abbrev s_area_guess : Stmt := topS 55
abbrev s_worked_out_areas : Stmt := topS 56
abbrev s_are_safe : Stmt := topS 57
abbrev s_is_safe_area : Stmt := topS 58
abbrev s_ljar : Stmt := topS 60
abbrev s_ldraw : Stmt := topS 61
abbrev s_lpick : Stmt := topS 62
abbrev s_ltags : Stmt := topS 63
abbrev s_lleaves : Stmt := topS 64
abbrev s_lsums : Stmt := topS 65
abbrev s_llie : Stmt := topS 66
abbrev s_lcounts : Stmt := topS 67
abbrev s_ltown : Stmt := topS 68
abbrev s_lseen : Stmt := topS 69
abbrev s_lright : Stmt := topS 70
abbrev s_law : Stmt := topS 71
abbrev m_init : Stmt := inClass (topS 30) 0
abbrev m_len : Stmt := inClass (topS 30) 11
abbrev m_eq : Stmt := inClass (topS 30) 9
abbrev m_lines : Stmt := inClass (topS 30) 2
abbrev m_names : Stmt := inClass (topS 30) 3
def pl1 (x : Str) (n : Nat) : Str × Nat := (x, n)
def nu1 (x : Str) (n : Int) : Str × Int := (x, n)
def fplaces : List (Str × Nat) := [pl1 "is_integer" 16, pl1 "is_number" 17, pl1 "are_numbers" 18, pl1 "is_name" 19, pl1 "wrong_at" 20, pl1 "_unit" 21, pl1 "_number_with" 22, pl1 "read_number" 23, pl1 "is_stretch" 25, pl1 "lies_in" 26, pl1 "text_of_stretch" 27, pl1 "stretch_in_text" 28, pl1 "_is_line" 31, pl1 "_need_lines" 32, pl1 "_line_text" 33, pl1 "_read_line" 34, pl1 "read_lines" 35, pl1 "need_areas" 36, pl1 "is_area" 37, pl1 "need_area" 38] ++ [pl1 "index_of_area" 39, pl1 "stretches_of" 40, pl1 "parents_of" 42, pl1 "parts_of" 43, pl1 "upward_ranges" 44, pl1 "tree_ranges" 45, pl1 "is_count" 47, pl1 "need_count" 48, pl1 "_total" 49, pl1 "need_areas_named" 51, pl1 "need_width" 52, pl1 "_need_page" 53, pl1 "_guesses" 54, pl1 "area_guess" 55, pl1 "worked_out_areas" 56, pl1 "_are_safe" 57, pl1 "is_safe_area" 58, pl1 "_law_jar" 60, pl1 "_law_draw" 61, pl1 "_law_pick" 62, pl1 "_law_tags" 63, pl1 "_law_leaves" 64, pl1 "_law_sums" 65, pl1 "_law_lie" 66, pl1 "_law_counts" 67, pl1 "_law_town" 68, pl1 "_law_seen" 69, pl1 "_law_right" 70, pl1 "law" 71]
def funs : List Str := fplaces.map (·.1)
def nums : List (Str × Int) := [nu1 "MOST_NUMBER" 4000, nu1 "MOST_LINES" 10, nu1 "_MOST_LETTERS" 8]
def frees : List Str := (["len", "int", "bool", "str", "tuple", "list", "isinstance", "abs", "divmod", "range", "repr", "min", "max", "all", "any", "sum", "sorted", "zip", "enumerate", "reversed", "set", "ArithmeticError"] : List String).map Str.ofString
def fields : List Str := ["_lines", "_names", "_leaves", "_text"]
def props : List (Str × Nat) := [pl1 "lines" 2, pl1 "names" 3, pl1 "text" 5]
def insB (K : PySem.W.Frag) (x : Str) : Bool := He.eqO (PySem.W.findIn K (.ref (He.ga K x)) "__class__") (some (some (.builtin "object.__class__"))) && (He.eqO (PySem.W.specialIn K (.builtin "object.__class__") "__get__") (some (some (.builtin "getset_descriptor.__get__"))) &&
  (decide (PySem.W.takesIn K (.builtin "object.__class__") = some true) && (decide (PySem.W.mroIn K (He.ga K x) (.type "object") = some true) && (decide (PySem.W.kitOne K (.ref (He.ga K x)) (.ref (He.ga K x)) = some true) &&
  ((PySem.W.clsIn K (He.ga K x)).isSome && decide (PySem.W.typeIn K (.ref (He.ga K x)) = some (.type "type")))))))
/-- the own __len__ -/
def lenB (K : PySem.W.Frag) (x : Str) : Bool := He.eqO (PySem.W.findIn K (.ref (He.ga K x)) "__len__") (some (some (.ref (Way.ad K (.meth x "__len__"))))) && PySem.W.isFn K (.ref (Way.ad K (.meth x "__len__")))
def fn : List FnQ := fplaces.map (fun p => ⟨.glo p.1, p.1, p.1, topS p.2⟩) ++ (⟨.meth "Areas" "__init__", "__init__", "Areas.__init__", m_init⟩ :: ⟨.meth "Areas" "__len__", "__len__", "Areas.__len__", m_len⟩ :: ⟨.meth "Areas" "__eq__", "__eq__", "Areas.__eq__", m_eq⟩ :: props.map (fun p => ⟨.prop "Areas" p.1, p.1, "Areas." ++ p.1, inClass (topS 30) p.2⟩))
def tf : List He.Defn := [("need_areas_named", none)]
def F (K : PySem.W.Frag) : Bool :=
  funs.all (fun x => (He.Fa.glo x).ok K) && (frees.all (fun x => (He.Fa.free x).ok K) && (nums.all (fun e => (He.Fa.int e.1 e.2).ok K) &&
  (((He.Fa.glo "Areas").ok K && (mkB K "Areas" && (insB K "Areas" && lenB K "Areas"))) && (fields.all (fun f => (He.Fa.noat "Areas" f).ok K) &&
  (props.all (fun p => propB K "Areas" p.1) && (K.lookup sysModules).isSome)))))
abbrev R : PySem.W.OpenRow := PySem.W.OpenLaw.row PySem.Challenge.rw_toldcounts_k13_whole_guesses_for_areas
abbrev hk : PySem.W.Hook := hookQ F fn tf
def ob (s : PySem.W.SharedT) : He.Al × Bool := obsQ F fn tf (HandSHeadRun.getT s)
theorem ob_eq (s : PySem.W.SharedT) : ob s = hk.obs s.abs := obsQ_eq (HandSHeadRun.getT_eq s)
def loose : List Str := nums.map (·.1) ++ ((["_wall", "WrongValue", "InvalidText", "InvalidNumber", "InvalidCount", "NotAreas", "InvalidLines", "InvalidNames", "WrongName", "UnknownName", "_DIGITS_AT_ONCE", "Areas"] : List String).map Str.ofString ++ funs.dropLast)
end K13
namespace K13
open PySem PySem.Spec PyProof.Rows L2 Tc
theorem run (w : World) : HandSHeadRun.RunEq R (PySem.W.view R.prog [71]) hk ob 14000 loose w := by
  intro os
  kernel_rfl
end K13
namespace K13
open PySem PySem.Spec PyProof.Rows L2 Tc Px Py
variable [Px.Fld]
section
variable {P : Program} {w : World} {K : PySem.W.Frag} {mg : Str → Option Value} {base : Heap}
def intB : PyData → Bool
  | .int _ => true
  | _ => false
def natB : PyData → Bool
  | .int i => decide (0 ≤ i)
  | _ => false
abbrev ni1 (ds : List PyData) : Prop := notI (ds.headD .none) = true
theorem sc_is_integer : FnScope ["value"] ["value"] (defScope s_is_integer) := ⟨rfl, rfl, rfl, by decide +kernel, rfl, by decide +kernel, by decide +kernel⟩
theorem ok_is_integer {f : Addr} {fd : FuncData} (F : Fun K "is_integer" "is_integer" s_is_integer f fd) (sm : ∃ o, K.lookup sysModules = some o) (B : Gls mg) :
    FnG P w K mg base (L2.CX P w) 1 f fd ["value"] (spF 1 ni1 fun ds => .ok (.bool (intB (ds.headD .none)))) := by
  refine fn_data F sc_is_integer sm (by decide) _ _ fun cdv A outer s H E Bs ds hl hp c ex => ?_
  match ds, hl with
  | [d], _ =>
  have hp : notI d = true := hp
  refine gs_cons ?_
  repeat infer_instance
  rw [isD_int]
  cases d <;> (repeat infer_instance)
  all_goals first | exact rfl | (rw [isD_bool]; repeat infer_instance; exact rfl)
def numsB (m : Int) : PyData → Bool
  | .tuple ds => decide ((ds.length : Int) = m) && ds.all natB
  | _ => false
def numsD : List PyData → PyData
  | [d, .int m] => .bool (numsB m d)
  | _ => .none
/-- neither it nor a thing in it is an instance -/
def pl1D (d : PyData) : Prop := notI d = true ∧ ∀ xs, d = .tuple xs → ∀ x ∈ xs, notI x = true
theorem nth_mem {xs : List PyData} {i : Nat} (h : i < xs.length) : nth xs i ∈ xs := by
  rw [nth_at (List.getElem?_eq_getElem h)]
  exact List.getElem_mem h
end
end K13
namespace K13
open PySem PySem.Spec PyProof.Rows L2 Tc Px Py
variable [Px.Fld]
local macro_rules | `(tactic| infer_instance) => `(tactic| first
  | (with_reducible refine gs_nil ?_)
  )
section
variable {P : Program} {w : World} {K : PySem.W.Frag} {mg : Str → Option Value} {base : Heap}
theorem sc_is_stretch : FnScope ["value", "low", "high"] ["value"] (defScope s_is_stretch) := ⟨rfl, rfl, rfl, by decide +kernel, rfl, by decide +kernel, by decide +kernel⟩
theorem sc_text_of_stretch : FnScope ["stretch", "low", "high"] ["stretch"] (defScope s_text_of_stretch) := ⟨rfl, rfl, rfl, by decide +kernel, rfl, by decide +kernel, by decide +kernel⟩
abbrev FInt (P : Program) (w : World) (K : PySem.W.Frag) (mg : Str → Option Value) (base : Heap) : Prop := Call P w K mg base (L2.CX P w) 1 "is_integer" ["value"] (spF 1 ni1 fun ds => .ok (.bool (intB (ds.headD .none))))
abbrev itx (i : Int) : Str := toString i
def liesB : List PyData → Bool
  | [.int n, .tuple [.int lo, .int hi]] => decide (lo ≤ n) && decide (n ≤ hi)
  | _ => false
def stT : List PyData → Str
  | [.tuple [.int lo, .int hi]] => if lo = hi then itx lo else itx lo ++ "-" ++ itx hi
  | _ => ""
theorem log_ok {i : Int} (h1 : 0 ≤ i) (h2 : i < 10 ^ 18) : i.natAbs.log2 < 1920 := by
  by_cases z : i.natAbs = 0
  · rw [z]
    decide
  · refine (Nat.log2_lt z).mpr (Nat.lt_of_lt_of_le (show i.natAbs < 2 ^ 64 by omega) (Nat.pow_le_pow_right (by decide) (by decide)))
theorem itx_len {n : Int} (h0 : 0 ≤ n) (h : n < 10 ^ 10) : (itx n).length ≤ 10 := PySem.W.KT.len_num h0 h
theorem ok_is_stretch (F1 : FInt P w K mg base) (mn : ∃ t, mg "MOST_NUMBER" = some (.int 4000 t)) {f : Addr} {fd : FuncData} (F : Fun K "is_stretch" "is_stretch" s_is_stretch f fd) (sm : ∃ o, K.lookup sysModules = some o) (B : Gls mg) :
    FnG P w K mg base (L2.CX P w) 2 f fd ["value"] (spF 1 (fun ds => ∃ lo hi : Int, ds = [.tuple [.int lo, .int hi]] ∧ 0 ≤ lo ∧ lo ≤ hi ∧ hi ≤ 4000) fun _ => .ok (.bool true)) := by
  refine fn_data F sc_is_stretch sm (by decide) _ _ fun cdv A outer s H E Bs ds hl hp c ex => ?_
  obtain ⟨lo, hi, rfl, h1, h2, h3⟩ := hp
  have nd := sc_is_stretch.nd
  refine gs_cons ?_
  repeat infer_instance
  rw [isD_tuple]
  dsimp only
  repeat infer_instance
  rw [eqv_int]
  show if (!true) = true then _ else _
  repeat infer_instance
  show if true = true then _ else _
  repeat infer_instance
  show if true = true then _ else _
  repeat infer_instance
  rw [decide_eq_true h1]
  repeat infer_instance
  rw [decide_eq_true h2]
  repeat infer_instance
  rw [decide_eq_true h3]
  repeat infer_instance
theorem ok_text_of_stretch {f : Addr} {fd : FuncData} (F : Fun K "text_of_stretch" "text_of_stretch" s_text_of_stretch f fd) (sm : ∃ o, K.lookup sysModules = some o) (B : Gls mg) :
    FnG P w K mg base (L2.CX P w) 1 f fd ["stretch"] (spF 1 (fun ds => ∃ lo hi : Int, ds = [.tuple [.int lo, .int hi]] ∧ 0 ≤ lo ∧ lo ≤ hi ∧ hi ≤ 4000) fun ds => .ok (.str (stT ds))) := by
  refine fn_data F sc_text_of_stretch sm (by decide) _ _ fun cdv A outer s H E Bs ds hl hp c ex => ?_
  obtain ⟨lo, hi, rfl, h1, h2, h3⟩ := hp
  have nd := sc_text_of_stretch.nd
  refine gs_cons ?_
  repeat infer_instance
  rw [eqv_int]
  have l1 := log_ok (i := lo) (by omega) (by omega)
  have l2 := log_ok (i := hi) (by omega) (by omega)
  by_cases e : lo = hi
  · rw [decide_eq_true e]
    repeat infer_instance
    refine ⟨l1, ?_⟩
    show Out.ok (.str (if lo = hi then itx lo else itx lo ++ "-" ++ itx hi)) = Out.ok (.str (itx lo))
    rw [if_pos e]
  rw [decide_eq_false e]
  repeat infer_instance
  show GE _ _ _ _ _
  repeat infer_instance
  have n1 := itx_len (n := lo) (by omega) (by omega)
  have n2 := itx_len (n := hi) (by omega) (by omega)
  have e0 : ∀ x : Str, Str.empty ++ x = x := Str.empty_append
  refine ⟨l1, itx lo, rfl, by rw [e0]; exact Nat.le_trans n1 (by decide), ?_⟩
  show GE _ _ _ _ _
  repeat infer_instance
  refine ⟨by rw [e0, Str.length_append]; exact Nat.le_trans (Nat.add_le_add_right n1 1) (by decide), ?_⟩
  show GE _ _ _ _ _
  repeat infer_instance
  refine ⟨l2, itx hi, rfl, by rw [e0, Str.length_append, Str.length_append]; exact Nat.le_trans (Nat.add_le_add (Nat.add_le_add_right n1 1) n2) (by decide), ?_⟩
  rw [e0]
  show Out.ok (.str (if lo = hi then itx lo else itx lo ++ "-" ++ itx hi)) = Out.ok (.str (itx lo ++ "-" ++ itx hi))
  rw [if_neg e]
end
end K13
namespace K13
open PySem PySem.Spec PyProof.Rows L2 Tc Px Py
variable [Px.Fld]
local macro_rules | `(tactic| infer_instance) => `(tactic| first
  | ((with_reducible show GT _ _ (Expr.UnaryOp UnaryOp.Not (Expr.Name "names" _) _) _ _); (refine gt_not (gt_lst ?_ (fun _ => rfl))))
  | (with_reducible refine gs_nil ?_)
  )
section
variable {P : Program} {w : World} {K : PySem.W.Frag} {mg : Str → Option Value} {base : Heap}
def strsD (l : List Str) : List PyData := l.map .str
def strD (p : Int × Int) : PyData := .tuple [.int p.1, .int p.2]
def okS (p : Int × Int) : Prop := 0 ≤ p.1 ∧ p.1 ≤ p.2 ∧ p.2 ≤ 4000
abbrev Ln := Str × Str × (Int × Int)
def lineD (l : Ln) : PyData := .tuple [.str l.1, .str l.2.1, strD l.2.2]
def linesD (L : List Ln) : PyData := .tuple (L.map lineD)
def nameB (z : Str) : Bool := decide (z.length ≤ 8) && (Txt.isascii z && (Txt.isalpha z && Txt.islower z))
abbrev FStr (P : Program) (w : World) (K : PySem.W.Frag) (mg : Str → Option Value) (base : Heap) : Prop := Call P w K mg base (L2.CX P w) 2 "is_stretch" ["value"] (spF 1 (fun ds => ∃ lo hi : Int, ds = [.tuple [.int lo, .int hi]] ∧ 0 ≤ lo ∧ lo ≤ hi ∧ hi ≤ 4000) fun _ => .ok (.bool true))
theorem sc_is_name : FnScope ["value"] ["value"] (defScope s_is_name) := ⟨rfl, rfl, rfl, by decide +kernel, rfl, by decide +kernel, by decide +kernel⟩
theorem sc_is_line : FnScope ["line", "names", "name", "parent", "stretch"] ["line", "names"] (defScope s_is_line) := ⟨rfl, rfl, rfl, by decide +kernel, rfl, by decide +kernel, by decide +kernel⟩
abbrev preName (ds : List PyData) : Prop := ∃ z, ds = [.str z] ∧ nameB z = true
theorem ok_is_name (ml : ∃ t, mg "_MOST_LETTERS" = some (.int 8 t)) {f : Addr} {fd : FuncData} (F : Fun K "is_name" "is_name" s_is_name f fd) (sm : ∃ o, K.lookup sysModules = some o) (B : Gls mg) :
    FnG P w K mg base (L2.CX P w) 1 f fd ["value"] (spF 1 preName fun _ => .ok (.bool true)) := by
  refine fn_data F sc_is_name sm (by decide) _ _ fun cdv A outer s H E Bs ds hl hp c ex => ?_
  obtain ⟨z, rfl, hz⟩ := hp
  have nd := sc_is_name.nd
  unfold nameB at hz
  rw [Bool.and_eq_true, Bool.and_eq_true, Bool.and_eq_true] at hz
  obtain ⟨h1, h2, h3, h4⟩ := hz
  have h1 := of_decide_eq_true h1
  refine gs_cons ?_
  repeat infer_instance
  rw [isD_str]
  repeat infer_instance
  refine ⟨Nat.le_trans h1 (by decide), ?_⟩
  repeat infer_instance
  rw [decide_eq_false (show ¬ (z.length : Int) > 8 by omega)]
  repeat infer_instance
  rw [h2]
  repeat infer_instance
  rw [h3]
  repeat infer_instance
  rw [h4]
  repeat infer_instance
/-- a line that can stand behind the lines with these names -/
structure LineOk (l : Ln) (ns : List Str) : Prop where
  nm : nameB l.1 = true
  nw : l.1 ∉ ns
  str : okS l.2.2
  top : ns = [] → l.2.1 = ""
  par : ns ≠ [] → l.2.1 ∈ ns
theorem eq_any {z : Str} {ns : List Str} : ((strsD ns).any fun y => PyData.eqv y (.str z)) = decide (z ∈ ns) := by
  induction ns with
  | nil => rfl
  | cons n ns ih =>
    show (PyData.eqv (.str n) (.str z) || (strsD ns).any _) = _
    rw [eqv_str, ih]
    by_cases e : n = z
    · subst e
      simp
    · have e2 : ¬ z = n := fun h => e h.symm
      simp [e, e2]
theorem strs_plainD : ∀ l : List Str, (strsD l).all plainD = true
  | [] => rfl
  | _ :: l => strs_plainD l
abbrev preIsLine (ds : List PyData) : Prop := ∃ (l : Ln) (ns : List Str), ds = [lineD l, .list (strsD ns)] ∧ LineOk l ns
theorem ok_is_line (F1 : Call P w K mg base (L2.CX P w) 1 "is_name" ["value"] (spF 1 preName fun _ => .ok (.bool true))) (F2 : FStr P w K mg base) {f : Addr} {fd : FuncData} (F : Fun K "_is_line" "_is_line" s_is_line f fd) (sm : ∃ o, K.lookup sysModules = some o) (B : Gls mg) :
    FnG P w K mg base (L2.CX P w) 3 f fd ["line", "names"] (spF 2 preIsLine fun _ => .ok (.bool true)) := by
  refine fn_data F sc_is_line sm (by decide) _ _ fun cdv A outer s H E Bs ds hl hp c ex => ?_
  obtain ⟨⟨z, pz, st⟩, ns, rfl, h⟩ := hp
  have nd := sc_is_line.nd
  have h1 : nameB z = true := h.nm
  have h2 : z ∉ ns := h.nw
  have h3 : okS st := h.str
  have h4 : ns = [] → pz = "" := h.top
  have h5 : ns ≠ [] → pz ∈ ns := h.par
  refine gs_cons ?_
  repeat infer_instance
  rw [show isD "tuple" (lineD (z, pz, st)) = true from rfl]
  repeat infer_instance
  show LenD (.tuple [_, _, _]) _
  repeat infer_instance
  show if (!PyData.eqv (.int 3) (.int 3)) = true then _ else _
  rw [show (!PyData.eqv (.int 3) (.int 3)) = false from rfl]
  repeat infer_instance
  show GG _ _ _ (.tuple [.str z, .str pz, strD st]) _ _
  repeat infer_instance
  refine ⟨⟨z, rfl, h1⟩, ?_⟩
  repeat infer_instance
  refine gt_in true rfl ?_
  repeat infer_instance
  refine gq_of ?_
  repeat infer_instance
  refine ⟨rfl, strs_plainD ns, ?_⟩
  rw [eq_any, decide_eq_false h2]
  repeat infer_instance
  rw [isD_str]
  repeat infer_instance
  cases ns with
  | nil =>
    rw [show (!(!(strsD []).isEmpty)) = true from rfl]
    repeat infer_instance
    rw [h4 rfl]
    rw [show PyData.eqv (.str "") (.str "") = true from by rw [eqv_str]; rfl]
    repeat infer_instance
    exact ⟨⟨st.1, st.2, rfl, h3.1, h3.2.1, h3.2.2⟩, to_ok rfl⟩
  | cons n ns =>
    rw [show (!(!(strsD (n :: ns)).isEmpty)) = false from rfl]
    repeat infer_instance
    refine gq_of ?_
    repeat infer_instance
    refine ⟨rfl, strs_plainD _, ?_⟩
    rw [eq_any, decide_eq_true (h5 (fun z => nomatch z))]
    repeat infer_instance
    exact ⟨⟨st.1, st.2, rfl, h3.1, h3.2.1, h3.2.2⟩, to_ok rfl⟩
end
end K13
namespace K13
open PySem PySem.Spec PyProof.Rows L2 Tc Px Py
variable [Px.Fld]
local macro_rules | `(tactic| infer_instance) => `(tactic| first
  | ((with_reducible show GE _ _ (Expr.Call (Expr.Name "_is_line" _) _ _ _) _ _); (refine ge_lend (i := 1) rfl ?_); intro B2 b1 b2 b3)
  )
section
variable {P : Program} {w : World} {K : PySem.W.Frag} {mg : Str → Option Value} {base : Heap}
def namesOf (L : List Ln) : List Str := L.map (·.1)
structure LinesOk (L : List Ln) : Prop where
  one : 1 ≤ L.length
  ten : L.length ≤ 10
  at_ : ∀ (k : Nat) (h : k < L.length), LineOk L[k] (namesOf (L.take k))
theorem nth_map {α : Type} {g : α → PyData} {L : List α} {i : Nat} (h : i < L.length) : nth (L.map g) i = g L[i] := by
  rw [nth_at (List.getElem?_eq_getElem (by rw [List.length_map]; exact h)), List.getElem_map]
theorem sc_need_lines : FnScope ["lines", "names", "at", "line"] ["lines"] (defScope s_need_lines) := ⟨rfl, rfl, rfl, by decide +kernel, rfl, by decide +kernel, by decide +kernel⟩
abbrev preLines (ds : List PyData) : Prop := ∃ L : List Ln, ds = [linesD L] ∧ LinesOk L
theorem ok_need_lines (ml : ∃ t, mg "MOST_LINES" = some (.int 10 t)) (F1 : Call P w K mg base (L2.CX P w) 3 "_is_line" ["line", "names"] (spF 2 preIsLine fun _ => .ok (.bool true))) {f : Addr} {fd : FuncData} (F : Fun K "_need_lines" "_need_lines" s_need_lines f fd) (sm : ∃ o, K.lookup sysModules = some o) (B : Gls mg) :
    FnG P w K mg base (L2.CX P w) 4 f fd ["lines"] (spF 1 preLines fun _ => .ok .none) := by
  refine fn_data F sc_need_lines sm (by decide) _ _ fun cdv A outer s H E Bs ds hl hp c ex => ?_
  obtain ⟨L, rfl, hL⟩ := hp
  have nd := sc_need_lines.nd
  have h1 := hL.one
  have h2 := hL.ten
  have hl : (L.map lineD).length = L.length := List.length_map _
  refine gs_cons ?_
  repeat infer_instance
  rw [show isD "tuple" (linesD L) = true from rfl]
  repeat infer_instance
  unfold linesD
  repeat infer_instance
  rw [eqv_int, decide_eq_false (show ¬ ((L.map lineD).length : Int) = 0 by rw [hl]; omega)]
  repeat infer_instance
  repeat (with_reducible refine gs_nil ?_)
  show Gs _ _ _ _ _
  refine gs_cons ?_
  repeat infer_instance
  refine ⟨fun i Γ => ∃ (a : Addr) (s2 s3 : Sl), Γ = [.d (.tuple (L.map lineD)), .own a (strsD (namesOf (L.take i))), s2, s3], ⟨_, _, _, rfl⟩, fun _ _ _ _ => trivial, ?_, ?_⟩
  · rintro i Γ hi ⟨a, s2, s3, rfl⟩
    have hi : i < L.length := by rw [hl] at hi; exact hi
    show GG _ _ _ (.tuple [.int i, nth (L.map lineD) i]) _ _
    rw [nth_map hi]
    repeat infer_instance
    rw [eqv_int, decide_eq_false (show ¬ (i : Int) = 10 by omega)]
    repeat infer_instance
    refine ⟨⟨L[i], _, rfl, hL.at_ i hi⟩, ?_⟩
    refine to_ok ⟨rfl, ?_⟩
    repeat infer_instance
    repeat (with_reducible refine gs_nil ?_)
    show Gs _ _ _ _ _
    refine gs_cons ?_
    repeat infer_instance
    unfold lineD
    repeat infer_instance
    have e1 : (strsD (namesOf (L.take i))).length ≤ 10 := by
      unfold strsD namesOf
      rw [List.length_map, List.length_map, List.length_take]
      omega
    refine ⟨Nat.lt_of_le_of_lt e1 (by decide), ?_⟩
    repeat infer_instance
    repeat (with_reducible refine gs_nil ?_)
    refine ⟨a, .d (.int i), .d (.tuple [.str L[i].1, .str L[i].2.1, strD L[i].2.2]), ?_⟩
    have e2 : strsD (namesOf (L.take (i + 1))) = strsD (namesOf (L.take i)) ++ [.str L[i].1] := by
      unfold strsD namesOf
      rw [List.take_succ, List.getElem?_eq_getElem hi, Option.toList_some, List.map_append, List.map_append] <;> rfl
    rw [e2] <;> rfl
  rintro Γ ⟨a, s2, s3, rfl⟩
  repeat (with_reducible refine gs_nil ?_)
  exact rfl
def lineT (w : Str) (l : Ln) : Str := w ++ " " ++ l.1 ++ " " ++ (if l.2.1 = "" then ("-" : Str) else l.2.1) ++ " " ++ stT [strD l.2.2]
theorem stT_len {x : Int × Int} (h : okS x) : (stT [strD x]).length ≤ 21 := by
  obtain ⟨h1, h2, h3⟩ := h
  have n1 := itx_len (n := x.1) (by omega) (by omega)
  have n2 := itx_len (n := x.2) (by omega) (by omega)
  show (if x.1 = x.2 then itx x.1 else itx x.1 ++ "-" ++ itx x.2).length ≤ 21
  split
  · omega
  · rw [Str.length_append, Str.length_append]
    have : ("-" : Str).length = 1 := rfl
    omega
theorem sc_line_text : FnScope ["word", "line", "name", "parent", "stretch"] ["word", "line"] (defScope s_line_text) := ⟨rfl, rfl, rfl, by decide +kernel, rfl, by decide +kernel, by decide +kernel⟩
abbrev preLT (ds : List PyData) : Prop := ∃ (w : Str) (l : Ln), ds = [.str w, lineD l] ∧ w.length ≤ 8 ∧ l.1.length ≤ 8 ∧ l.2.1.length ≤ 8 ∧ okS l.2.2
def lineTD : List PyData → PyData
  | [.str w, .tuple [.str a, .str b, .tuple [.int x, .int y]]] => .str (lineT w (a, b, (x, y)))
  | _ => .none
theorem ok_line_text (F1 : Call P w K mg base (L2.CX P w) 1 "text_of_stretch" ["stretch"] (spF 1 (fun ds => ∃ lo hi : Int, ds = [.tuple [.int lo, .int hi]] ∧ 0 ≤ lo ∧ lo ≤ hi ∧ hi ≤ 4000) fun ds => .ok (.str (stT ds)))) {f : Addr} {fd : FuncData} (F : Fun K "_line_text" "_line_text" s_line_text f fd) (sm : ∃ o, K.lookup sysModules = some o) (B : Gls mg) :
    FnG P w K mg base (L2.CX P w) 2 f fd ["word", "line"] (spF 2 preLT fun ds => .ok (lineTD ds)) := by
  refine fn_data F sc_line_text sm (by decide) _ _ fun cdv A outer s H E Bs ds hl hp c ex => ?_
  obtain ⟨z, ⟨a, b, st⟩, rfl, h1, h2, h3, h4⟩ := hp
  have nd := sc_line_text.nd
  have h2 : a.length ≤ 8 := h2
  have h3 : b.length ≤ 8 := h3
  have h4 : okS st := h4
  have l1 := stT_len h4
  have hst : ∃ lo hi : Int, [strD st] = [.tuple [.int lo, .int hi]] ∧ 0 ≤ lo ∧ lo ≤ hi ∧ hi ≤ 4000 := ⟨st.1, st.2, rfl, h4.1, h4.2.1, h4.2.2⟩
  have e0 : ∀ x : Str, Str.empty ++ x = x := Str.empty_append
  have e1 : (" " : Str).length = 1 := rfl
  have e11 : ("-" : Str).length = 1 := rfl
  have e00 : Str.empty.length = 0 := rfl
  have due : lineTD [.str z, lineD (a, b, st)] = .str (lineT z (a, b, st)) := rfl
  rw [due]
  unfold lineT
  dsimp only
  refine gs_cons ?_
  repeat infer_instance
  show GG _ _ _ (.tuple [.str a, .str b, strD st]) _ _
  repeat infer_instance
  rw [eqv_str]
  by_cases e : b = ""
  · rw [decide_eq_true e, if_pos e]
    repeat infer_instance
    repeat (with_reducible refine gs_nil ?_)
    show Gs _ _ _ _ _
    refine gs_cons ?_
    repeat infer_instance
    all_goals show GE _ _ _ _ _
    repeat infer_instance
    refine ⟨Nat.le_trans h1 (by decide), z, rfl, Nat.le_trans (by simp only [Str.length_append, e00]; omega : _ ≤ 100) (by decide), ?_⟩
    show GE _ _ _ _ _
    repeat infer_instance
    refine ⟨Nat.le_trans (by simp only [Str.length_append, e00, e1]; omega : _ ≤ 100) (by decide), ?_⟩
    show GE _ _ _ _ _
    repeat infer_instance
    refine ⟨Nat.le_trans h2 (by decide), _, rfl, Nat.le_trans (by simp only [Str.length_append, e00, e1]; omega : _ ≤ 100) (by decide), ?_⟩
    show GE _ _ _ _ _
    repeat infer_instance
    refine ⟨Nat.le_trans (by simp only [Str.length_append, e00, e1]; omega : _ ≤ 100) (by decide), ?_⟩
    show GE _ _ _ _ _
    repeat infer_instance
    refine ⟨Nat.le_trans (Nat.le_of_eq e11) (by decide), _, rfl, Nat.le_trans (by simp only [Str.length_append, e00, e1, e11]; omega : _ ≤ 100) (by decide), ?_⟩
    show GE _ _ _ _ _
    repeat infer_instance
    refine ⟨Nat.le_trans (by simp only [Str.length_append, e00, e1, e11]; omega : _ ≤ 100) (by decide), ?_⟩
    show GE _ _ _ _ _
    repeat infer_instance
    refine ⟨hst, to_ok ?_⟩
    refine ⟨Nat.le_trans l1 (by decide), _, rfl, Nat.le_trans (by simp only [Str.length_append, e00, e1, e11]; omega : _ ≤ 100) (by decide), ?_⟩
    rw [e0]
    exact rfl
  · rw [decide_eq_false e, if_neg e]
    repeat infer_instance
    repeat (with_reducible refine gs_nil ?_)
    show Gs _ _ _ _ _
    refine gs_cons ?_
    repeat infer_instance
    all_goals show GE _ _ _ _ _
    repeat infer_instance
    refine ⟨Nat.le_trans h1 (by decide), z, rfl, Nat.le_trans (by simp only [Str.length_append, e00]; omega : _ ≤ 100) (by decide), ?_⟩
    show GE _ _ _ _ _
    repeat infer_instance
    refine ⟨Nat.le_trans (by simp only [Str.length_append, e00, e1]; omega : _ ≤ 100) (by decide), ?_⟩
    show GE _ _ _ _ _
    repeat infer_instance
    refine ⟨Nat.le_trans h2 (by decide), _, rfl, Nat.le_trans (by simp only [Str.length_append, e00, e1]; omega : _ ≤ 100) (by decide), ?_⟩
    show GE _ _ _ _ _
    repeat infer_instance
    refine ⟨Nat.le_trans (by simp only [Str.length_append, e00, e1]; omega : _ ≤ 100) (by decide), ?_⟩
    show GE _ _ _ _ _
    repeat infer_instance
    refine ⟨Nat.le_trans h3 (by decide), _, rfl, Nat.le_trans (by simp only [Str.length_append, e00, e1, e11]; omega : _ ≤ 100) (by decide), ?_⟩
    show GE _ _ _ _ _
    repeat infer_instance
    refine ⟨Nat.le_trans (by simp only [Str.length_append, e00, e1, e11]; omega : _ ≤ 100) (by decide), ?_⟩
    show GE _ _ _ _ _
    repeat infer_instance
    refine ⟨hst, to_ok ?_⟩
    refine ⟨Nat.le_trans l1 (by decide), _, rfl, Nat.le_trans (by simp only [Str.length_append, e00, e1, e11]; omega : _ ≤ 100) (by decide), ?_⟩
    rw [e0]
    exact rfl
end
end K13
namespace K13
open PySem PySem.Spec PyProof.Rows L2 Tc Px Py
variable [Px.Fld]
local macro_rules | `(tactic| fail "x9GE0") => `(tactic| first
  | ((with_reducible show GE _ _ (Expr.Call (Expr.Name "tuple" _) [Expr.ListComp (Expr.Subscript _ _ _) _ _ _] _ _) _ _); (with_reducible apply ge_tupC); (with_reducible eq_refl); (eq_refl); (exact Gls.tuple (by assumption)); rotate_left; (exact star_cons rfl))
  )
local macro_rules | `(tactic| infer_instance) => `(tactic| first
  | ((with_reducible show GE _ _ (Expr.Call (Expr.Name "tuple" _) [Expr.ListComp (Expr.Subscript _ _ _) _ _ _] _ _) _ _); fail "x9GE0")
  )
section
variable {P : Program} {w : World} {K : PySem.W.Frag} {mg : Str → Option Value} {base : Heap}
theorem sc_init : FnScope ["self", "lines", "parents", "line", "name"] ["self", "lines"] (defScope m_init) := ⟨rfl, rfl, rfl, by decide +kernel, rfl, by decide +kernel, by decide +kernel⟩
def leavesOf (L : List Ln) : List Str := (namesOf L).filter fun z => decide (z ∉ L.map (·.2.1))
def areasT (L : List Ln) : Str := Txt.join "\n" (L.map (lineT "area"))
/-- areas as data -/
def arF (L : List Ln) : List (PyData × PyData) := [(.str "_lines", linesD L), (.str "_names", clnD (strsD (namesOf L))), (.str "_leaves", .tuple (strsD (leavesOf L))), (.str "_text", .str (areasT L))]
def ln0 : Ln := ("", "", (0, 0))
def decLn : PyData → Ln
  | .tuple [.str a, .str b, .tuple [.int x, .int y]] => (a, b, (x, y))
  | _ => ("", "", (0, 0))
theorem dec_ln (l : Ln) : decLn (lineD l) = l := rfl
def areasF : List PyData → List (PyData × PyData)
  | [.tuple ds] => arF (ds.map decLn)
  | _ => []
theorem dec_lines (L : List Ln) : (L.map lineD).map decLn = L := by
  rw [List.map_map]
  exact (List.map_congr_left fun l _ => dec_ln l).trans (List.map_id' L)
theorem areasF_eq (L : List Ln) : areasF [linesD L] = arF L := by
  show arF ((L.map lineD).map decLn) = arF L
  rw [dec_lines]
theorem LinesOk.mem {L : List Ln} (h : LinesOk L) {l : Ln} (hl : l ∈ L) : l.1.length ≤ 8 ∧ l.2.1.length ≤ 8 ∧ okS l.2.2 := by
  have nm : ∀ l ∈ L, l.1.length ≤ 8 := fun l hl => by
    obtain ⟨k, hk, e⟩ := List.getElem_of_mem hl
    have := (h.at_ k hk).nm
    rw [e] at this
    unfold nameB at this
    rw [Bool.and_eq_true] at this
    exact of_decide_eq_true this.1
  obtain ⟨k, hk, e⟩ := List.getElem_of_mem hl
  have q := h.at_ k hk
  rw [e] at q
  refine ⟨nm l hl, ?_, q.str⟩
  by_cases z : namesOf (L.take k) = []
  · rw [q.top z]
    decide
  · obtain ⟨m, hm, e2⟩ := List.mem_map.mp (q.par z)
    rw [← e2]
    exact nm m (List.mem_of_mem_take hm)
theorem sum_len {α : Type} {f : α → Nat} {b : Nat} : ∀ {L : List α}, (∀ l ∈ L, f l ≤ b) → (L.map f).sum ≤ b * L.length
  | [], _ => by simp
  | l :: L, h => by
    have h1 := h l List.mem_cons_self
    have h2 := sum_len (L := L) fun x hx => h x (List.mem_cons_of_mem _ hx)
    rw [List.map_cons, List.sum_cons, List.length_cons, Nat.mul_succ]
    omega
theorem getD_at {α : Type} {L : List α} {i : Nat} {d : α} (h : i < L.length) : L.getD i d = L[i] := by
  rw [List.getD_eq_getElem?_getD, List.getElem?_eq_getElem h] <;> rfl
theorem self_getD {α : Type} (d : α) (L : List α) : (List.range L.length).map (fun i => L.getD i d) = L := by
  refine List.ext_getElem (by rw [List.length_map, List.length_range]) fun i h1 h2 => ?_
  rw [List.getElem_map, List.getElem_range, getD_at h2]
theorem fil_some {α : Type} (d : α) (L : List α) (P : α → Bool) (g : α → PyData) : ((List.range L.length).filter fun i => P (L.getD i d)).map (fun i => g (L.getD i d)) = (L.filter P).map g := by
  conv => rhs; rw [← self_getD d L, List.filter_map]
  rw [List.map_map]
  rfl
theorem fil_all {α : Type} (d : α) (L : List α) (g : α → PyData) : ((List.range L.length).filter fun _ => true).map (fun i => g (L.getD i d)) = L.map g := by
  rw [List.filter_eq_self.mpr fun _ _ => rfl]
  conv => rhs; rw [← self_getD d L]
  rw [List.map_map]
  rfl
theorem nsh {z : Str} {ns : List Str} : (!decide (z ∈ ns)) = decide (z ∉ ns) := by
  by_cases h : z ∈ ns <;> simp [h]
theorem ok_init {C : Addr} (cl : Cls K C) (n1 : NoAttr K C "_lines") (n2 : NoAttr K C "_names") (n3 : NoAttr K C "_leaves") (n4 : NoAttr K C "_text")
    (F1 : Call P w K mg base (L2.CX P w) 4 "_need_lines" ["lines"] (spF 1 preLines fun _ => .ok .none))
    (F2 : Call P w K mg base (L2.CX P w) 2 "_line_text" ["word", "line"] (spF 2 preLT fun ds => .ok (lineTD ds)))
    {f : Addr} {fd : FuncData} (F : Fun K "__init__" "Areas.__init__" m_init f fd) (sm : ∃ o, K.lookup sysModules = some o) (B : Gls mg) :
    FnG P w K mg base (L2.CX P w) 5 f fd ["self", "lines"] (spI C 1 preLines fun ds => .ok (areasF ds)) := by
  refine fn_init F sc_init sm rfl _ _ fun cdv A outer s H E G Hs0 a0 dx ds hl hp c ex => ?_
  obtain ⟨L, rfl, hL⟩ := hp
  have nd := sc_init.nd
  have h1 := hL.one
  have h2 := hL.ten
  have hl : (L.map lineD).length = L.length := List.length_map _
  rw [areasF_eq]
  refine gi_st ex fun gs hs ex1 => ?_
  repeat infer_instance
  refine ⟨⟨L, rfl, hL⟩, ?_⟩
  repeat infer_instance
  refine gi_st ex fun gs hs ex2 => ?_
  repeat infer_instance
  unfold linesD
  ((with_reducible apply gf_lk); (eq_refl); (assumption); (eq_refl); (eq_refl); (eq_refl); (intro _; eq_refl))
  repeat infer_instance
  refine ⟨Nat.le_trans (show (L.map lineD).length ≤ 1000 by rw [List.length_map]; omega) (by decide), fun _ => true, fun i => (fun l : Ln => PyData.str l.2.1) (L.getD i ln0), fun i hi B' => ?_, ?_⟩
  · have hi : i < L.length := by rw [List.length_map] at hi; exact hi
    have eN : nth (L.map lineD) i = (lineD) L[i] := nth_map hi
    have eG : L.getD i ln0 = L[i] := getD_at hi
    have hm : L[i] ∈ L := List.getElem_mem hi
    generalize L[i] = v at eN eG hm
    rw [eN]
    unfold lineD
    repeat infer_instance
    exact ⟨by show (fun l : Ln => PyData.str l.2.1) v = (fun l : Ln => PyData.str l.2.1) (L.getD i ln0); rw [eG], rfl⟩
  rw [show (L.map lineD).length = L.length from List.length_map _, fil_all (ln0) L (fun l : Ln => PyData.str l.2.1)]
  repeat infer_instance
  refine gi_fld (i := 0) cl n1 (by decide) (by rfl) (by rfl) rfl (fun gs hs => ?_) (by decide) (by decide) rfl
  repeat infer_instance
  refine gi_fld (i := 0) cl n2 (by show 1 < 1000; decide) (by rfl) (by rfl) rfl (fun gs hs => ?_) (by decide) (by decide) rfl
  repeat infer_instance
  ((with_reducible apply gf_lk); (eq_refl); (assumption); (eq_refl); (eq_refl); (eq_refl); (intro _; eq_refl))
  repeat infer_instance
  refine ⟨Nat.le_trans (show (L.map lineD).length ≤ 1000 by rw [List.length_map]; omega) (by decide), fun _ => true, fun i => (fun l : Ln => PyData.str l.1) (L.getD i ln0), fun i hi B' => ?_, ?_⟩
  · have hi : i < L.length := by rw [List.length_map] at hi; exact hi
    have eN : nth (L.map lineD) i = (lineD) L[i] := nth_map hi
    have eG : L.getD i ln0 = L[i] := getD_at hi
    have hm : L[i] ∈ L := List.getElem_mem hi
    generalize L[i] = v at eN eG hm
    rw [eN]
    unfold lineD
    repeat infer_instance
    exact ⟨by show (fun l : Ln => PyData.str l.1) v = (fun l : Ln => PyData.str l.1) (L.getD i ln0); rw [eG], rfl⟩
  rw [show (L.map lineD).length = L.length from List.length_map _, fil_all (ln0) L (fun l : Ln => PyData.str l.1)]
  repeat infer_instance
  refine gi_fldN (i := 0) cl n3 (by show 2 < 1000; decide) (by rfl) (by rfl) rfl (fun gs hs nm => ?_) (by decide) (by decide) rfl
  repeat infer_instance
  ((with_reducible apply gf_lk); (eq_refl); (assumption); (eq_refl); (eq_refl); (eq_refl); (intro _; eq_refl))
  repeat infer_instance
  refine ge_uncl ?_
  refine ge_self (i := 0) cl n2 rfl rfl rfl upd_same nm (by rfl) ?_ (by decide) (by decide) rfl
  refine ⟨_, rfl, ?_⟩
  have eNm : (L.map fun l : Ln => PyData.str l.1) = (namesOf L).map PyData.str := by
    unfold namesOf
    rw [List.map_map] <;> rfl
  have ePa : (L.map fun l : Ln => PyData.str l.2.1) = strsD (L.map (·.2.1)) := by
    unfold strsD
    rw [List.map_map] <;> rfl
  rw [eNm, ePa]
  have hN : (namesOf L).length ≤ 10 := by
    unfold namesOf
    rw [List.length_map]
    omega
  show _ ∧ _ ∧ _
  refine ⟨trivial, Nat.le_trans (show ((namesOf L).map PyData.str).length ≤ 1000 by rw [List.length_map]; omega) (by decide), fun i => (fun z : Str => decide (z ∉ L.map (·.2.1))) ((namesOf L).getD i ("" : Str)), fun i => PyData.str ((namesOf L).getD i ("" : Str)), fun i hi B' => ?_, ?_⟩
  · have hi : i < (namesOf L).length := by rw [List.length_map] at hi; exact hi
    have eN : nth ((namesOf L).map PyData.str) i = PyData.str (namesOf L)[i] := nth_map hi
    have eG : (namesOf L).getD i ("" : Str) = (namesOf L)[i] := getD_at hi
    generalize (namesOf L)[i] = v at eN eG
    rw [eN]
    intro _ _ _ _ _
    repeat infer_instance
    refine gt_notin true rfl ?_
    repeat infer_instance
    refine gq_of ?_
    repeat infer_instance
    refine ⟨rfl, strs_plainD _, ?_⟩
    rw [eq_any]
    refine ⟨by show (!decide (v ∈ L.map (·.2.1))) = decide ((namesOf L).getD i ("" : Str) ∉ L.map (·.2.1)); rw [eG, nsh], ?_⟩
    cases hb : (!decide (v ∈ L.map (·.2.1)))
    · repeat infer_instance
    · repeat infer_instance
      exact ⟨by show PyData.str v = PyData.str ((namesOf L).getD i ("" : Str)); rw [eG], rfl⟩
  rw [show ((namesOf L).map PyData.str).length = (namesOf L).length from List.length_map _, fil_some ("" : Str) (namesOf L) (fun z : Str => decide (z ∉ L.map (·.2.1))) PyData.str]
  repeat infer_instance
  refine gi_fld (i := 0) cl n4 (by show 3 < 1000; decide) (by rfl) (by rfl) rfl (fun gs hs => ?_) (by decide) (by decide) rfl
  repeat infer_instance
  ((with_reducible apply gf_lk); (eq_refl); (assumption); (eq_refl); (eq_refl); (eq_refl); (intro _; eq_refl))
  repeat infer_instance
  refine ⟨Nat.le_trans (show (L.map lineD).length ≤ 1000 by rw [List.length_map]; omega) (by decide), fun _ => true, fun i => (fun l : Ln => PyData.str (lineT "area" l)) (L.getD i ln0), fun i hi B' => ?_, ?_⟩
  · have hi : i < L.length := by rw [List.length_map] at hi; exact hi
    have eN : nth (L.map lineD) i = (lineD) L[i] := nth_map hi
    have eG : L.getD i ln0 = L[i] := getD_at hi
    have hm : L[i] ∈ L := List.getElem_mem hi
    generalize L[i] = v at eN eG hm
    rw [eN]
    have lo := hL.mem hm
    repeat infer_instance
    refine ⟨⟨"area", v, rfl, by decide, lo.1, lo.2.1, lo.2.2⟩, to_ok ?_⟩
    exact ⟨by show (fun l : Ln => PyData.str (lineT "area" l)) v = (fun l : Ln => PyData.str (lineT "area" l)) (L.getD i ln0); rw [eG], rfl⟩
  rw [show (L.map lineD).length = L.length from List.length_map _, fil_all (ln0) L (fun l : Ln => PyData.str (lineT "area" l))]
  refine ⟨L.map (lineT "area"), .inl (congrArg PyData.list (List.map_map).symm), ?_, ?_⟩
  · have hb := sum_len (L := L) (f := fun l => (lineT "area" l).length) (b := 60) fun l hl => by
      obtain ⟨q1, q2, q3⟩ := hL.mem hl
      have q4 := stT_len q3
      have e1 : (" " : Str).length = 1 := rfl
      have e2 : ("area" : Str).length = 4 := rfl
      have e3 : (if l.2.1 = "" then ("-" : Str) else l.2.1).length ≤ 8 := by
        split
        · decide
        · exact q2
      unfold lineT
      simp only [Str.length_append, e1, e2]
      omega
    have e4 : ((L.map (lineT "area")).map (·.length)).sum = (L.map fun l => (lineT "area" l).length).sum := by rw [List.map_map] <;> rfl
    have e5 : ("\n" : Str).length = 1 := rfl
    rw [e4, List.length_map, e5]
    omega
  repeat infer_instance
  refine gi_nil ?_
  rfl
end
end K13
namespace K13
open PySem PySem.Spec PyProof.Rows L2 Tc Px Py PtA PtB PtC
variable [Px.Fld]
local macro_rules | `(tactic| fail "x10GE0") => `(tactic| first
  | ((with_reducible show GE _ _ (Expr.Call (Expr.Attribute _ "index" _) [_] _ _) _ _); (with_reducible apply ge_tindex); rotate_left; (eq_refl); (eq_refl); (eq_refl); (exact star_cons rfl))
  )
local macro_rules | `(tactic| infer_instance) => `(tactic| first
  | ((with_reducible show GE _ _ (Expr.Call (Expr.Attribute _ "index" _) [_] _ _) _ _); fail "x10GE0")
  | ((with_reducible show GB _ _ (Expr.Name "names" _) _ _); (refine gb_of (ge_uncl ?_)))
  )
section
variable {P : Program} {w : World} {K : PySem.W.Frag} {mg : Str → Option Value} {base : Heap}
abbrev preAr (C : Addr) (ds : List PyData) : Prop := ∃ L : List Ln, ds = [inst C (arF L)] ∧ LinesOk L
def decA : List PyData → List Ln
  | [.dict (_ :: (_, .tuple xs) :: _)] => xs.map decLn
  | _ => []
theorem dec_A (C : Addr) (L : List Ln) : decA [inst C (arF L)] = L := dec_lines L
def spans (L : List Ln) : List Rg := L.map (·.2.2)
def rgD (l : List Rg) : List PyData := l.map strD
def shOf (L : List Ln) : List Nat := L.tail.map fun l => (namesOf L).findIdx fun z => decide (z = l.2.1)
def natsD (l : List Nat) : List PyData := l.map fun n : Nat => PyData.int (n : Int)
def partsD (pss : List (List Nat)) : PyData := .list (pss.map fun ps => .list (natsD ps))
theorem sc_len : FnScope ["self"] ["self"] (defScope m_len) := ⟨rfl, rfl, rfl, by decide +kernel, rfl, by decide +kernel, by decide +kernel⟩
theorem sc_need_areas : FnScope ["areas"] ["areas"] (defScope s_need_areas) := ⟨rfl, rfl, rfl, by decide +kernel, rfl, by decide +kernel, by decide +kernel⟩
theorem sc_stretches_of : FnScope ["areas", "line"] ["areas"] (defScope s_stretches_of) := ⟨rfl, rfl, rfl, by decide +kernel, rfl, by decide +kernel, by decide +kernel⟩
theorem sc_parents_of : FnScope ["areas", "names", "line", "inner_parents"] ["areas"] (defScope s_parents_of) := ⟨rfl, rfl, rfl, by decide +kernel, rfl, by decide +kernel, by decide +kernel⟩
theorem ok_len {C : Addr} (cl : Cls K C) (n1 : NoAttr K C "_lines") {f : Addr} {fd : FuncData} (F : Fun K "__len__" "Areas.__len__" m_len f fd) (sm : ∃ o, K.lookup sysModules = some o) (B : Gls mg) :
    FnG P w K mg base (L2.CX P w) 1 f fd ["self"] (spF 1 (preAr C) fun ds => .ok (.int ((decA ds).length : Nat))) := by
  refine fn_data F sc_len sm (by decide) _ _ fun cdv A outer s H E Bs ds hl hp c ex => ?_
  obtain ⟨L, rfl, hL⟩ := hp
  rw [dec_A]
  refine gs_cons ?_
  repeat infer_instance
  refine ge_fld rfl cl n1 ?_ rfl
  repeat infer_instance
  refine ⟨_, _, rfl, rfl, ?_⟩
  unfold linesD
  repeat infer_instance
  rw [List.length_map]
theorem ok_need_areas {C : Addr} (gv : mg "Areas" = some (.ref C)) (kv : KlsD K C) {f : Addr} {fd : FuncData} (F : Fun K "need_areas" "need_areas" s_need_areas f fd) (sm : ∃ o, K.lookup sysModules = some o) (B : Gls mg) :
    FnG P w K mg base (L2.CX P w) 1 f fd ["areas"] (spF 1 (fun ds => ∃ fs, ds = [inst C fs]) fun _ => .ok .none) := by
  refine fn_data F sc_need_areas sm (by decide) _ _ fun cdv A outer s H E Bs ds hl hp c ex => ?_
  obtain ⟨fs, rfl⟩ := hp
  have nd := sc_need_areas.nd
  refine gs_cons ?_
  repeat infer_instance
  refine .inr ⟨fs, rfl, ?_⟩
  repeat infer_instance
  repeat (with_reducible refine gs_nil ?_)
  exact rfl
/-- where a name stands -/
def nmIx (ns : List Str) (z : Str) : Nat := ns.findIdx fun y => decide (y = z)
theorem nmIx_at {ns : List Str} {z : Str} (h : z ∈ ns) : ns[nmIx ns z]? = some z ∧ nmIx ns z < ns.length ∧ ∀ m, m < nmIx ns z → ns[m]? ≠ some z := by
  have hl : nmIx ns z < ns.length := List.findIdx_lt_length_of_exists ⟨z, h, decide_eq_true rfl⟩
  refine ⟨?_, hl, fun m hm e => ?_⟩
  · rw [List.getElem?_eq_getElem hl]
    exact congrArg some (of_decide_eq_true (List.findIdx_getElem (w := hl)))
  · have hm2 : m < ns.length := Nat.lt_trans hm hl
    have := List.not_of_lt_findIdx hm
    rw [List.getElem?_eq_getElem hm2] at e
    have e := Option.some.inj e
    rw [e] at this
    simp at this
def parsL (L : List Ln) : List Nat := L.length :: shOf L
theorem sh_eq (L : List Ln) : shOf L = L.tail.map fun l => nmIx (namesOf L) l.2.1 := rfl
theorem par_in {L : List Ln} (h : LinesOk L) {l : Ln} (hl : l ∈ L.tail) : l.2.1 ∈ namesOf L := by
  obtain ⟨k, hk, e⟩ := List.getElem_of_mem hl
  have hk2 : k + 1 < L.length := by rw [List.length_tail] at hk; omega
  have e2 : L[k + 1] = l := by rw [← e, List.getElem_tail]
  have q := h.at_ (k + 1) hk2
  rw [e2] at q
  have hp := q.par (fun z => by
    have z2 := congrArg List.length z
    unfold namesOf at z2
    rw [List.length_map, List.length_take, List.length_nil] at z2
    omega)
  obtain ⟨m, hm, e3⟩ := List.mem_map.mp hp
  exact List.mem_map.mpr ⟨m, List.mem_of_mem_take hm, e3⟩
theorem cut1 {xs : List PyData} (h : 1 ≤ xs.length) : Px.cutD xs (some 1) none = xs.tail := by
  unfold Px.cutD
  show (xs.drop (HT.sIx xs.length 0 (some 1))).take (HT.sIx xs.length xs.length none - HT.sIx xs.length 0 (some 1)) = _
  have e1 : HT.sIx xs.length 0 (some 1) = 1 := by
    unfold HT.sIx
    simp
    omega
  have e2 : HT.sIx xs.length xs.length none = xs.length := rfl
  rw [e1, e2, List.take_of_length_le (by rw [List.length_drop]; omega), List.drop_one]
theorem ok_parents_of {C : Addr} (DL : PropD P w K mg base C "lines" "_lines" 1) (DN : PropD P w K mg base C "names" "_names" 1) {f : Addr} {fd : FuncData} (F : Fun K "parents_of" "parents_of" s_parents_of f fd) (sm : ∃ o, K.lookup sysModules = some o) (B : Gls mg) :
    FnG P w K mg base (L2.CX P w) 3 f fd ["areas"] (spF 1 (preAr C) fun ds => .ok (.list (natsD (parsL (decA ds))))) := by
  refine fn_data F sc_parents_of sm (by decide) _ _ fun cdv A outer s H E Bs ds hl hp c ex => ?_
  obtain ⟨L, rfl, hL⟩ := hp
  rw [dec_A]
  have nd := sc_parents_of.nd
  have h1 := hL.one
  have h2 := hL.ten
  have hT : L.tail.length ≤ 10 := by rw [List.length_tail]; omega
  refine gs_cons ?_
  repeat infer_instance
  refine ⟨_, _, rfl, rfl, ?_⟩
  repeat infer_instance
  ((with_reducible apply set_ld); (assumption); (assumption); (eq_refl); (eq_refl); (eq_refl); (eq_refl); (eq_refl); (eq_refl); (intro _; eq_refl))
  repeat infer_instance
  refine ⟨_, _, rfl, rfl, ?_⟩
  unfold linesD
  repeat infer_instance
  rw [cut1 (by rw [List.length_map]; exact h1), ← List.map_tail]
  refine ⟨Nat.le_trans (show (L.tail.map lineD).length ≤ 1000 by rw [List.length_map]; omega) (by decide), fun _ => true, fun i => (fun l : Ln => PyData.int (nmIx (namesOf L) l.2.1 : Nat)) (L.tail.getD i ln0), fun i hi B' => ?_, ?_⟩
  · have hi : i < L.tail.length := by rw [List.length_map] at hi; exact hi
    have eN : nth (L.tail.map lineD) i = lineD L.tail[i] := nth_map hi
    have eG : L.tail.getD i ln0 = L.tail[i] := getD_at hi
    have hm : L.tail[i] ∈ L.tail := List.getElem_mem hi
    generalize L.tail[i] = v at eN eG hm
    rw [eN]
    unfold lineD
    have q := nmIx_at (par_in hL hm)
    repeat infer_instance
    refine ⟨v.2.1, _, rfl, q.1, q.2.2, ?_⟩
    exact ⟨by show PyData.int (nmIx (namesOf L) v.2.1 : Nat) = PyData.int (nmIx (namesOf L) (L.tail.getD i ln0).2.1 : Nat); rw [eG], rfl⟩
  rw [show (L.tail.map lineD).length = L.tail.length from List.length_map _, fil_all ln0 L.tail (fun l : Ln => PyData.int (nmIx (namesOf L) l.2.1 : Nat))]
  repeat infer_instance
  refine gq_of ?_
  repeat infer_instance
  have e1 : (strsD (namesOf L)).length = L.length := by
    unfold strsD namesOf
    rw [List.length_map, List.length_map]
  have e2 : natsD (parsL L) = .int ((strsD (namesOf L)).length : Nat) :: (L.tail.map (fun l : Ln => PyData.int (nmIx (namesOf L) l.2.1 : Nat)) ++ []) := by
    rw [e1, List.append_nil]
    unfold natsD parsL
    rw [List.map_cons, sh_eq, List.map_map] <;> rfl
  refine ⟨Nat.le_trans (show _ ≤ 12 by
    rw [List.length_cons, List.append_nil, List.length_map]
    omega) (by decide), ?_⟩
  repeat infer_instance
  rw [e2] <;> rfl
end
end K13
namespace K13
open PySem PySem.Spec PyProof.Rows L2 Tc Px Py PtA PtB PtC
variable [Px.Fld]
section
variable {P : Program} {w : World} {K : PySem.W.Frag} {mg : Str → Option Value} {base : Heap}
theorem sc_parts_of : FnScope ["areas", "parts", "_", "at", "parent"] ["areas"] (defScope s_parts_of) := ⟨rfl, rfl, rfl, by decide +kernel, rfl, by decide +kernel, by decide +kernel⟩
/-- the lists after i lines -/
def partsAt (sh : List Nat) (i : Nat) : List (List PyData) := (List.range (sh.length + 1)).map fun a => natsD (psS sh i a)
theorem partsAt_zero (sh : List Nat) : partsAt sh 0 = List.replicate (sh.length + 1) [] := by
  unfold partsAt
  refine List.ext_getElem (by rw [List.length_map, List.length_range, List.length_replicate]) fun i h1 h2 => ?_
  rw [List.getElem_map, List.getElem_range, List.getElem_replicate] <;> rfl
theorem partsAt_all (sh : List Nat) : (partsAt sh (sh.length + 1)).map PyData.list = (pssS sh).map fun ps => .list (natsD ps) := by
  unfold partsAt pssS
  rw [List.map_map, List.map_map] <;> rfl
theorem psS_succ (sh : List Nat) (i a : Nat) : psS sh (i + 1) a = psS sh i a ++ if 0 < i ∧ paS sh i = a then [i] else [] := by
  unfold psS
  rw [List.range_succ, List.filter_append]
  congr 1
  by_cases h : 0 < i ∧ paS sh i = a
  · rw [if_pos h, List.filter_cons_of_pos (by simp [h.1, h.2])] <;> rfl
  · rw [if_neg h, List.filter_cons_of_neg (by simpa using h)] <;> rfl
theorem partsAt_one (sh : List Nat) : partsAt sh 1 = partsAt sh 0 := by
  unfold partsAt
  refine List.map_congr_left fun a _ => ?_
  rw [psS_succ, if_neg (fun z => absurd z.1 (Nat.lt_irrefl _)), List.append_nil]
theorem natsD_app (a b : List Nat) : natsD (a ++ b) = natsD a ++ natsD b := List.map_append
theorem psS_len (sh : List Nat) (i a : Nat) : (psS sh i a).length ≤ i := by
  unfold psS
  exact Nat.le_trans (List.length_filter_le _ _) (by rw [List.length_range] <;> exact Nat.le_refl _)
theorem partsAt_len (sh : List Nat) (i : Nat) : (partsAt sh i).length = sh.length + 1 := by
  unfold partsAt
  rw [List.length_map, List.length_range]
theorem partsAt_get {sh : List Nat} {i a : Nat} (h : a < sh.length + 1) : (partsAt sh i).getD a [] = natsD (psS sh i a) := by
  unfold partsAt
  rw [List.getD_eq_getElem?_getD, List.getElem?_map, List.getElem?_range h] <;> rfl
theorem partsAt_step {sh : List Nat} {i : Nat} (h0 : 0 < i) (hp : paS sh i < sh.length + 1) : partsAt sh (i + 1) = (partsAt sh i).set (paS sh i) ((partsAt sh i).getD (paS sh i) [] ++ [.int i]) := by
  rw [partsAt_get hp]
  refine List.ext_getElem (by rw [List.length_set, partsAt_len, partsAt_len]) fun a h1 h2 => ?_
  have ha : a < sh.length + 1 := by rw [partsAt_len] at h1; exact h1
  have e1 : (partsAt sh (i + 1))[a] = natsD (psS sh (i + 1) a) := by simp [partsAt]
  rw [e1, psS_succ, natsD_app]
  by_cases e : paS sh i = a
  · subst e
    rw [if_pos ⟨h0, rfl⟩, List.getElem_set_self] <;> rfl
  · rw [if_neg (fun z => e z.2), List.getElem_set_ne e]
    have e2 : (partsAt sh i)[a]'(by rw [partsAt_len]; exact ha) = natsD (psS sh i a) := by simp [partsAt]
    rw [e2]
    exact List.append_nil _
theorem sh_len (L : List Ln) : (shOf L).length = L.length - 1 := by rw [sh_eq, List.length_map, List.length_tail]
/-- each line stands behind the one in which it lies -/
theorem sh_ok {L : List Ln} (h : LinesOk L) : ShOk (shOf L) := by
  intro k hk
  rw [sh_len] at hk
  have hk2 : k + 1 < L.length := by omega
  have e : (shOf L).getD k 0 = nmIx (namesOf L) L[k + 1].2.1 := by
    rw [List.getD_eq_getElem?_getD, sh_eq, List.getElem?_map, List.getElem?_tail, List.getElem?_eq_getElem hk2] <;> rfl
  rw [e]
  have q := (h.at_ (k + 1) hk2).par (fun z => by
    have z2 := congrArg List.length z
    unfold namesOf at z2
    rw [List.length_map, List.length_take, List.length_nil] at z2
    omega)
  obtain ⟨j, hj, e2⟩ := List.getElem_of_mem q
  have hj2 : j < k + 1 := by
    unfold namesOf at hj
    rw [List.length_map, List.length_take] at hj
    omega
  have hjn : j < (namesOf L).length := by
    unfold namesOf
    rw [List.length_map]
    omega
  have e3 : (namesOf L)[j] = L[k + 1].2.1 := by
    rw [← e2]
    simp [namesOf]
  have := (nmIx_at (ns := namesOf L) (z := L[k + 1].2.1) (by rw [← e3]; exact List.getElem_mem hjn)).2.2 j
  refine Nat.le_of_not_lt fun z => this (by omega) ?_
  rw [List.getElem?_eq_getElem hjn, e3]
/-- none of the slots is a list of one's own -/
def noOwnB : List Sl → Bool
  | [] => true
  | .own _ _ :: _ => false
  | _ :: r => noOwnB r
theorem noOwn_of : ∀ {Γ : List Sl}, noOwnB Γ = true → NoOwn Γ
  | [], _, i, a, ds, e => by cases e
  | .own _ _ :: _, h, _, _, _, _ => nomatch h
  | .no :: r, h, 0, a, ds, e => nomatch e
  | .d _ :: r, h, 0, a, ds, e => nomatch e
  | .v _ :: r, h, 0, a, ds, e => nomatch e
  | .no :: r, h, i + 1, a, ds, e => noOwn_of (Γ := r) h i a ds e
  | .d _ :: r, h, i + 1, a, ds, e => noOwn_of (Γ := r) h i a ds e
  | .v _ :: r, h, i + 1, a, ds, e => noOwn_of (Γ := r) h i a ds e
theorem ok_parts_of {C : Addr} (DN : PropD P w K mg base C "names" "_names" 1) (F1 : Call P w K mg base (L2.CX P w) 3 "parents_of" ["areas"] (spF 1 (preAr C) fun ds => .ok (.list (natsD (parsL (decA ds)))))) {f : Addr} {fd : FuncData} (F : Fun K "parts_of" "parts_of" s_parts_of f fd) (sm : ∃ o, K.lookup sysModules = some o) (B : Gls mg) :
    FnG P w K mg base (L2.CX P w) 4 f fd ["areas"] (spF 1 (preAr C) fun ds => .ok (partsD (pssS (shOf (decA ds))))) := by
  refine fn_data F sc_parts_of sm (by decide) _ _ fun cdv A outer s H E Bs ds hl hp c ex => ?_
  obtain ⟨L, rfl, hL⟩ := hp
  rw [dec_A]
  have nd := sc_parts_of.nd
  have h1 := hL.one
  have h2 := hL.ten
  have hn : (shOf L).length + 1 = L.length := by rw [sh_len]; omega
  have hsh := sh_ok hL
  refine gn_new (u := ⟨0, 0, 0, 0⟩) (elt := .Name "x" ⟨0, 0, 0, 0⟩) (own := [("_", 2)]) (ix := 1) (n0 := (shOf L).length + 1) (Γc := [.d (inst C (arF L)), .no, .no, .no, .no]) c nd rfl rfl rfl rfl rfl rfl (fun _ => rfl) rfl ?_ ?_
  · refine gi_seq (ge_uncl ?_)
    repeat infer_instance
    refine ⟨_, _, rfl, rfl, _, rfl, ?_⟩
    have e1 : (strsD (namesOf L)).length = (shOf L).length + 1 := by
      unfold strsD namesOf
      rw [List.length_map, List.length_map, hn]
    show _ ∧ _
    refine ⟨trivial, by rw [e1, hn]; exact Nat.lt_of_le_of_lt h2 (by decide), noOwn_of rfl, fun i hi B' => ?_, e1, rfl⟩
    repeat infer_instance
    exact ⟨noOwn_of rfl, rfl⟩
  · intro D Hs σ H L0 as R S no Ns
    refine gn_for (n := (shOf L).length + 1) (par := fun i => if i = 0 then L.length else paS (shOf L) i) (P := partsAt (shOf L)) (L := L0) (as := as) (ix := 1) (ia := 3) (ip := 4) c nd rfl rfl rfl rfl rfl rfl rfl rfl rfl (by decide) (fun _ _ => rfl) rfl rfl rfl rfl rfl (fun _ => rfl) (by decide) ⟨rfl, rfl, rfl⟩ rfl rfl rfl rfl ?_ S no rfl (by rw [partsAt_zero]; exact Ns) ?_ (partsAt_one _) ?_
    · intro Hs' σ' H' s1 s2 k S' no' N'
      refine gn_ret (ix := 1) rfl rfl (by decide) (by decide) (R.up k) S' no' rfl N' ?_
      rw [partsAt_all] <;> rfl
    · intro B2 b1 b2 b3
      refine gi_enumL rfl rfl B.enumerate rfl ?_
      refine gs_list ?_
      repeat infer_instance
      refine ⟨⟨L, rfl, hL⟩, to_ok ?_⟩
      rw [dec_A]
      have e3 : (parsL L).length = (shOf L).length + 1 := rfl
      refine ⟨_, rfl, trivial, rfl, by unfold natsD; rw [List.length_map, e3], fun i hi => ?_, rfl⟩
      have hi2 : i < (parsL L).length := hi
      show PyData.tuple [PyData.int i, Px.nth ((parsL L).map fun n : Nat => PyData.int (n : Int)) i] = _
      rw [nth_map hi2]
      by_cases z : i = 0
      · subst z
        rw [if_pos rfl] <;> rfl
      · rw [if_neg z]
        have e4 : (parsL L)[i] = paS (shOf L) i := by
          cases i with
          | zero => exact absurd rfl z
          | succ j =>
            have hj : j < (shOf L).length := Nat.lt_of_succ_lt_succ hi
            show (shOf L)[j] = (shOf L).getD (j + 1 - 1) 0
            rw [Nat.add_sub_cancel, getD_at hj]
        rw [e4]
    · intro i h0 hi
      have q := pa_lt hsh h0 hi
      rw [if_neg (by omega)]
      refine ⟨by rw [partsAt_len]; omega, ?_, partsAt_step h0 (by omega)⟩
      rw [partsAt_get (by omega)]
      unfold natsD
      rw [List.length_map]
      exact Nat.lt_of_le_of_lt (psS_len _ _ _) (Nat.lt_of_le_of_lt (show i ≤ 100 by omega) (by decide))
end
end K13
namespace K13
open PySem PySem.Spec PyProof.Rows L2 Tc Px Py PtA PtB PtC
variable [Px.Fld]
local macro_rules | `(tactic| fail "x12GI0") => `(tactic| first
  | ((with_reducible show GI _ _ _ (Expr.Call (Expr.Name "reversed" _) [Expr.Call (Expr.Name "range" _) [_] _ _] _ _) _ _); (with_reducible apply gi_revR); (eq_refl); (eq_refl); (exact Gls.reversed (by assumption)); (eq_refl); (eq_refl); (exact Gls.range (by assumption)); (exact star_cons rfl); (exact star_cons rfl))
  )
local macro_rules | `(tactic| fail "x12GF1") => `(tactic| first
  | ((with_reducible show GF _ _ (Expr.Call (Expr.Name "list" _) [Expr.Name _ _] _ _) _ _); (refine gf_list1 true rfl ?_ ?_ ?_ (star_cons rfl)); (eq_refl); (exact Gls.list (by assumption)))
  )
local macro_rules | `(tactic| infer_instance) => `(tactic| first
  | ((with_reducible show GI _ _ _ (Expr.Call (Expr.Name "reversed" _) [Expr.Call (Expr.Name "range" _) [_] _ _] _ _) _ _); fail "x12GI0")
  | ((with_reducible show GT _ _ (Expr.Subscript (Expr.Name "parts" _) _ _) _ _); (refine gt_lst ?_ (fun _ => rfl)))
  | ((with_reducible show GF _ _ (Expr.Call (Expr.Name "list" _) [Expr.Name _ _] _ _) _ _); fail "x12GF1")
  )
section
variable {P : Program} {w : World} {K : PySem.W.Frag} {mg : Str → Option Value} {base : Heap}
def decR (ds : List PyData) : List Rg := ds.map fun d => match d with
  | .tuple [.int a, .int b] => (a, b)
  | _ => (0, 0)
def decP : PyData → List (List Nat)
  | .list xs => xs.map fun d => match d with
    | .list ys => ys.map fun y => match y with
      | .int i => i.toNat
      | _ => 0
    | _ => []
  | _ => []
theorem dec_R (l : List Rg) : decR (rgD l) = l := by
  unfold decR rgD
  rw [List.map_map]
  exact (List.map_congr_left fun p _ => rfl).trans (List.map_id' l)
theorem dec_P (pss : List (List Nat)) : decP (partsD pss) = pss := by
  unfold decP partsD
  dsimp only
  rw [List.map_map]
  refine (List.map_congr_left fun ps _ => ?_).trans (List.map_id' pss)
  show (natsD ps).map _ = ps
  unfold natsD
  rw [List.map_map]
  exact (List.map_congr_left fun n _ => Int.toNat_natCast n).trans (List.map_id' ps)
/-- lists of lines that a tree has -/
structure TrOk (pss : List (List Nat)) (str : List Rg) : Prop where
  len : str.length = pss.length
  ten : pss.length ≤ 10
  few : ∀ ps ∈ pss, ps.length ≤ 10
  lt : ∀ ps ∈ pss, ∀ p ∈ ps, p < pss.length
def preTr (d : PyData) (ps : List PyData) : Prop := ∃ pss str, d = partsD pss ∧ ps = rgD str ∧ TrOk pss str
def rgO : Option (List Rg) → PyData
  | none => .none
  | some l => .list (rgD l)
theorem at_map {α : Type} {g : α → PyData} {L : List α} {k : Nat} (h : k < L.length) : atD (L.map g) (k : Nat) = some (g L[k]) := by
  unfold atD ixN
  rw [if_pos (by omega), if_pos (by rw [List.length_map]; omega)]
  show (L.map g)[((k : Nat) : Int).toNat]? = _
  rw [Int.toNat_natCast, List.getElem?_map, List.getElem?_eq_getElem h] <;> rfl
theorem mx_eq (i j : Int) : (if j > i then j else i) = max i j := by split <;> omega
theorem mn_eq (i j : Int) : (if j < i then j else i) = min i j := by split <;> omega
theorem pt_get {pss : List (List Nat)} {a : Nat} (h : a < pss.length) : pss[a] = pt pss a := (getD_at h).symm
theorem gp_get {l : List Rg} {a : Nat} (h : a < l.length) : l[a] = gp l a := (getD_at h).symm
theorem ints_isI : ∀ ns : List Int, (ns.map PyData.int).all isI = true
  | [] => rfl
  | _ :: r => ints_isI r
theorem asIs_ints (ns : List Int) : (ns.map PyData.int).map asI = ns := by
  rw [List.map_map]
  exact (List.map_congr_left fun n _ => rfl).trans (List.map_id' ns)
theorem upS_len {pss : List (List Nat)} {str : List Rg} : ∀ i f, upS pss str i = some f → f.length = str.length
  | 0, f, h => by cases h; rfl
  | i + 1, f, h => by
    unfold upS at h
    cases q : upS pss str i with
    | none => rw [q] at h; cases h
    | some g =>
      rw [q] at h
      have ih := upS_len i g q
      have h : upStep pss str g (pss.length - 1 - i) = some f := h
      unfold upStep at h
      split at h
      · cases h
        exact ih
      · split at h
        · cases h
        · cases h
          rw [List.length_set]
          exact ih
theorem upS_none {pss : List (List Nat)} {str : List Rg} {i j : Nat} (h : upS pss str i = none) (hij : i ≤ j) : upS pss str j = none := by
  induction j with
  | zero =>
    have : i = 0 := by omega
    rw [← this]
    exact h
  | succ j ih =>
    by_cases e : i = j + 1
    · rw [← e]
      exact h
    · show (upS pss str j).bind _ = none
      rw [ih (by omega)] <;> rfl
theorem sc_upward_ranges : FnScope ["parts", "stretches", "found", "at", "part", "low", "high"] ["parts", "stretches"] (defScope s_upward_ranges) := ⟨rfl, rfl, rfl, by decide +kernel, rfl, by decide +kernel, by decide +kernel⟩
theorem ok_upward_ranges {f : Addr} {fd : FuncData} (F : Fun K "upward_ranges" "upward_ranges" s_upward_ranges f fd) (sm : ∃ o, K.lookup sysModules = some o) (B : Gls mg) :
    FnG P w K mg base (L2.CX P w) 3 f fd ["parts", "stretches"] (spS 2 (preLst K preTr fun d ps => .ok (rgO (upS (decP d) (decR ps) (decP d).length)))) := by
  refine fn_lst F sc_upward_ranges sm (by decide) rfl (by decide) _ _ fun cdv A outer s H E Bs d ms a hp LV c ex => ?_
  obtain ⟨pss, str, rfl, rfl, T⟩ := hp
  rw [dec_P, dec_R]
  have nd := sc_upward_ranges.nd
  have t1 := T.len
  have t2 := T.ten
  unfold partsD
  refine gs_cons ?_
  repeat infer_instance
  have lm : (pss.map fun ps => PyData.list (natsD ps)).length = pss.length := List.length_map _
  rw [lm]
  refine ⟨by omega, ?_⟩
  refine ⟨fun i Γ => ∃ (fnd : List Rg) (ad : Addr) (s3 s4 s5 s6 : Sl), upS pss str i = some fnd ∧ Γ = [.d (.list (pss.map fun ps => .list (natsD ps))), .v (.ref a), .own ad (rgD fnd), s3, s4, s5, s6], ⟨str, _, _, _, _, _, rfl, rfl⟩, fun _ _ _ _ => trivial, ?_, ?_⟩
  · rintro i Γ hi ⟨fnd, ad, s3, s4, s5, s6, hu, rfl⟩
    have hi : i < pss.length := hi
    have lf : fnd.length = pss.length := (upS_len i fnd hu).trans t1
    have ea : ((pss.length : Int) - 1 - i) = ((pss.length - 1 - i : Nat) : Int) := by omega
    have hu1 : upS pss str (i + 1) = upStep pss str fnd (pss.length - 1 - i) := by
      show (upS pss str i).bind _ = _
      rw [hu] <;> rfl
    have ha : pss.length - 1 - i < pss.length := by omega
    show GG _ _ _ (.int ((pss.length : Int) - 1 - i)) _ _
    rw [ea]
    generalize pss.length - 1 - i = at_ at hu1 ha
    repeat infer_instance
    refine ⟨_, at_map ha, _, rfl, ?_⟩
    rw [pt_get ha]
    unfold upStep at hu1
    cases hps : pt pss at_ with
    | nil =>
      rw [show (!(natsD []).isEmpty) = false from rfl]
      rw [if_pos hps] at hu1
      repeat infer_instance
      repeat (with_reducible refine gs_nil ?_)
      exact ⟨fnd, ad, _, _, _, _, hu1, rfl⟩
    | cons p0 ps =>
    rw [hps, if_neg (fun z => nomatch z)] at hu1
    have hmem : p0 :: ps ∈ pss := by rw [← hps, ← pt_get ha]; exact List.getElem_mem ha
    have hpl : ∀ p ∈ p0 :: ps, p < pss.length := T.lt _ hmem
    have hp10 := T.few _ hmem
    rw [show (!(natsD (p0 :: ps)).isEmpty) = true from rfl]
    repeat infer_instance
    refine ⟨_, at_map (by rw [t1]; exact ha), ?_⟩
    rw [gp_get (by rw [t1]; exact ha)]
    unfold strD
    repeat infer_instance
    ((with_reducible apply gf_lk); (eq_refl); (assumption); (eq_refl); (eq_refl); (eq_refl); (intro _; eq_refl))
    repeat infer_instance
    refine ⟨_, at_map ha, ?_⟩
    rw [pt_get ha, hps]
    repeat infer_instance
    refine ⟨Nat.le_trans (show (natsD (p0 :: ps)).length ≤ 1000 by unfold natsD; rw [List.length_map]; omega) (by decide), fun _ => true, fun i => (fun p : Nat => PyData.int (gp fnd p).1) ((p0 :: ps).getD i 0), fun i hi B' => ?_, ?_⟩
    · have hi : i < (p0 :: ps).length := by unfold natsD at hi; rw [List.length_map] at hi; exact hi
      have eN : Px.nth (natsD (p0 :: ps)) i = PyData.int ((p0 :: ps)[i] : Nat) := nth_map (g := fun n : Nat => PyData.int (n : Int)) hi
      have eG : (p0 :: ps).getD i 0 = (p0 :: ps)[i] := getD_at hi
      have hm := hpl _ (List.getElem_mem hi)
      generalize (p0 :: ps)[i] = p at eN eG hm
      rw [eN]
      repeat infer_instance
      refine ⟨_, at_map (by rw [lf]; exact hm), ?_⟩
      rw [gp_get (by rw [lf]; exact hm)]
      unfold strD
      repeat infer_instance
      exact ⟨by show PyData.int (gp fnd p).1 = PyData.int (gp fnd ((p0 :: ps).getD i 0)).1; rw [eG], rfl⟩
    rw [show (natsD (p0 :: ps)).length = (p0 :: ps).length from List.length_map _, fil_all 0 (p0 :: ps) (fun p : Nat => PyData.int (gp fnd p).1)]
    rw [show ((p0 :: ps).map fun p : Nat => PyData.int (gp fnd p).1) = ((p0 :: ps).map fun p => (gp fnd p).1).map PyData.int from List.map_map.symm]
    refine sum_lst (ints_isI _) ?_
    rw [asIs_ints]
    repeat infer_instance
    refine ⟨_, at_map (by rw [t1]; exact ha), ?_⟩
    rw [gp_get (by rw [t1]; exact ha)]
    unfold strD
    repeat infer_instance
    ((with_reducible apply gf_lk); (eq_refl); (assumption); (eq_refl); (eq_refl); (eq_refl); (intro _; eq_refl))
    repeat infer_instance
    refine ⟨_, at_map ha, ?_⟩
    rw [pt_get ha, hps]
    repeat infer_instance
    refine ⟨Nat.le_trans (show (natsD (p0 :: ps)).length ≤ 1000 by unfold natsD; rw [List.length_map]; omega) (by decide), fun _ => true, fun i => (fun p : Nat => PyData.int (gp fnd p).2) ((p0 :: ps).getD i 0), fun i hi B' => ?_, ?_⟩
    · have hi : i < (p0 :: ps).length := by unfold natsD at hi; rw [List.length_map] at hi; exact hi
      have eN : Px.nth (natsD (p0 :: ps)) i = PyData.int ((p0 :: ps)[i] : Nat) := nth_map (g := fun n : Nat => PyData.int (n : Int)) hi
      have eG : (p0 :: ps).getD i 0 = (p0 :: ps)[i] := getD_at hi
      have hm := hpl _ (List.getElem_mem hi)
      generalize (p0 :: ps)[i] = p at eN eG hm
      rw [eN]
      repeat infer_instance
      refine ⟨_, at_map (by rw [lf]; exact hm), ?_⟩
      rw [gp_get (by rw [lf]; exact hm)]
      unfold strD
      repeat infer_instance
      exact ⟨by show PyData.int (gp fnd p).2 = PyData.int (gp fnd ((p0 :: ps).getD i 0)).2; rw [eG], rfl⟩
    rw [show (natsD (p0 :: ps)).length = (p0 :: ps).length from List.length_map _, fil_all 0 (p0 :: ps) (fun p : Nat => PyData.int (gp fnd p).2)]
    rw [show ((p0 :: ps).map fun p : Nat => PyData.int (gp fnd p).2) = ((p0 :: ps).map fun p => (gp fnd p).2).map PyData.int from List.map_map.symm]
    refine sum_lst (ints_isI _) ?_
    rw [asIs_ints]
    repeat infer_instance
    rw [mx_eq, mn_eq]
    rw [show ((p0 :: ps).map fun p => (gp fnd p).1).sum = PtA.sm (p0 :: ps) (fun p => (gp fnd p).1) from rfl, show ((p0 :: ps).map fun p => (gp fnd p).2).sum = PtA.sm (p0 :: ps) (fun p => (gp fnd p).2) from rfl]
    by_cases hlt : min (gp str at_).2 (PtA.sm (p0 :: ps) fun p => (gp fnd p).2) < max (gp str at_).1 (PtA.sm (p0 :: ps) fun p => (gp fnd p).1)
    · rw [decide_eq_true hlt]
      rw [if_pos hlt] at hu1
      repeat infer_instance
      rw [upS_none hu1 (show i + 1 ≤ pss.length by omega)] <;> rfl
    · rw [decide_eq_false hlt]
      rw [if_neg hlt] at hu1
      repeat infer_instance
      repeat (with_reducible refine gs_nil ?_)
      show Gs _ _ _ _ _
      refine gs_cons ?_
      repeat infer_instance
      refine ⟨rgD fnd, at_, rfl, (at_ : Int), rfl, by unfold ixN; rw [if_pos (by omega), if_pos (by unfold rgD; rw [List.length_map, lf]; omega), Int.toNat_natCast], ?_⟩
      repeat (with_reducible refine gs_nil ?_)
      refine ⟨_, ad, .d (.int at_), .no, .d (.int (max (gp str at_).1 (PtA.sm (p0 :: ps) fun p => (gp fnd p).1))), .d (.int (min (gp str at_).2 (PtA.sm (p0 :: ps) fun p => (gp fnd p).2))), hu1, ?_⟩
      have eset : rgD (fnd.set at_ (max (gp str at_).1 (PtA.sm (p0 :: ps) fun p => (gp fnd p).1), min (gp str at_).2 (PtA.sm (p0 :: ps) fun p => (gp fnd p).2))) = (rgD fnd).set at_ (.tuple [.int (max (gp str at_).1 (PtA.sm (p0 :: ps) fun p => (gp fnd p).1)), .int (min (gp str at_).2 (PtA.sm (p0 :: ps) fun p => (gp fnd p).2))]) := by
        unfold rgD
        rw [List.map_set] <;> rfl
      rw [eset] <;> rfl
  · rintro Γ ⟨fnd, ad, s3, s4, s5, s6, hu, rfl⟩
    repeat (with_reducible refine gs_nil ?_)
    show Gs _ _ _ _ _
    refine gs_cons ?_
    repeat infer_instance
    rw [hu] <;> rfl
end
end K13
namespace K13
open PySem PySem.Spec PyProof.Rows L2 Tc Px Py PtA PtB PtC
variable [Px.Fld]
local macro_rules | `(tactic| fail "x13GF0") => `(tactic| first
  | ((with_reducible show GF _ _ (Expr.Call (Expr.Name "list" _) [Expr.Name _ _] _ _) _ _); (refine gf_list1 true rfl ?_ ?_ ?_ (star_cons rfl)); (eq_refl); (exact Gls.list (by assumption)))
  )
local macro_rules | `(tactic| infer_instance) => `(tactic| first
  | ((with_reducible show GF _ _ (Expr.Call (Expr.Name "list" _) [Expr.Name _ _] _ _) _ _); fail "x13GF0")
  )
section
variable {P : Program} {w : World} {K : PySem.W.Frag} {mg : Str → Option Value} {base : Heap}
theorem downS_len {pss : List (List Nat)} {u : List Rg} : ∀ i, (downS pss u i).length = u.length
  | 0 => rfl
  | i + 1 => by
    show (inS _ _ _ _ _ _ _).length = _
    rw [inS_len, downS_len i]
theorem inS_app {u : List Rg} {lo hi least most : Int} : ∀ {ps qs : List Nat} {f : List Rg}, inS u lo hi least most (ps ++ qs) f = inS u lo hi least most qs (inS u lo hi least most ps f)
  | [], _, _ => rfl
  | p :: ps, qs, f => inS_app (ps := ps)
theorem sc_tree_ranges : FnScope ["parts", "stretches", "upward", "found", "at", "low", "high", "part", "least", "most", "part_low", "part_high"] ["parts", "stretches"] (defScope s_tree_ranges) := ⟨rfl, rfl, rfl, by decide +kernel, rfl, by decide +kernel, by decide +kernel⟩
abbrev FUp (P : Program) (w : World) (K : PySem.W.Frag) (mg : Str → Option Value) (base : Heap) : Prop := Call P w K mg base (L2.CX P w) 3 "upward_ranges" ["parts", "stretches"] (spS 2 (preLst K preTr fun d ps => .ok (rgO (upS (decP d) (decR ps) (decP d).length))))
theorem ok_tree_ranges (F1 : FUp P w K mg base) {f : Addr} {fd : FuncData} (F : Fun K "tree_ranges" "tree_ranges" s_tree_ranges f fd) (sm : ∃ o, K.lookup sysModules = some o) (B : Gls mg) :
    FnG P w K mg base (L2.CX P w) 4 f fd ["parts", "stretches"] (spS 2 (preLst K preTr fun d ps => .ok (rgO (treeR (decP d) (decR ps))))) := by
  refine fn_lst F sc_tree_ranges sm (by decide) rfl (by decide) _ _ fun cdv A outer s H E Bs d ms a hp LV c ex => ?_
  obtain ⟨pss, str, rfl, rfl, T⟩ := hp
  rw [dec_P, dec_R]
  have nd := sc_tree_ranges.nd
  have t1 := T.len
  have t2 := T.ten
  have lm : (pss.map fun ps => PyData.list (natsD ps)).length = pss.length := List.length_map _
  refine gs_cons ?_
  repeat infer_instance
  refine ⟨⟨pss, str, rfl, rfl, T⟩, to_ok ?_⟩
  rw [dec_P, dec_R]
  unfold treeR
  cases hu : upS pss str pss.length with
  | none =>
    show _ ∧ _
    repeat infer_instance
    show if true = true then _ else _
    repeat infer_instance
    exact rfl
  | some u =>
  have lu : u.length = pss.length := (upS_len _ u hu).trans t1
  show _ ∧ _
  repeat infer_instance
  show if false = true then _ else _
  repeat infer_instance
  repeat (with_reducible refine gs_nil ?_)
  show Gs _ _ _ _ _
  unfold partsD
  refine gs_cons ?_
  repeat infer_instance
  refine gq_of ?_
  repeat infer_instance
  rw [lm]
  refine ⟨by omega, by omega, fun i Γ => ∃ (ad : Addr) (s4 s5 s6 s7 s8 s9 s10 s11 : Sl), Γ = [.d (.list (pss.map fun ps => .list (natsD ps))), .v (.ref a), .d (.list (rgD u)), .own ad (rgD (downS pss u i)), s4, s5, s6, s7, s8, s9, s10, s11], ⟨_, _, _, _, _, _, _, _, _, rfl⟩, fun _ _ _ _ => trivial, ?_, ?_⟩
  · rintro i Γ hi ⟨ad, s4, s5, s6, s7, s8, s9, s10, s11, rfl⟩
    have hi : i < pss.length := by omega
    have ld : (downS pss u i).length = pss.length := (downS_len i).trans lu
    have eD : downS pss u (i + 1) = inS u (gp (downS pss u i) i).1 (gp (downS pss u i) i).2 (PtA.sm (pt pss i) fun p => (gp u p).1) (PtA.sm (pt pss i) fun p => (gp u p).2) (pt pss i) (downS pss u i) := rfl
    generalize downS pss u i = f0 at ld eD ⊢
    generalize hps : pt pss i = ps at eD
    have hmem : ps ∈ pss := by rw [← hps, ← pt_get hi]; exact List.getElem_mem hi
    have hpl : ∀ p ∈ ps, p < pss.length := T.lt _ hmem
    have hp10 := T.few _ hmem
    show GG _ _ _ (.int (0 + (i : Int))) _ _
    rw [Int.zero_add]
    repeat infer_instance
    refine ⟨_, at_map (by rw [ld]; exact hi), ?_⟩
    rw [gp_get (by rw [ld]; exact hi)]
    generalize gp f0 i = lh at eD
    unfold strD
    repeat infer_instance
    ((with_reducible apply gf_lk); (eq_refl); (assumption); (eq_refl); (eq_refl); (eq_refl); (intro _; eq_refl))
    repeat infer_instance
    refine ⟨_, at_map hi, ?_⟩
    rw [pt_get hi, hps]
    repeat infer_instance
    refine ⟨Nat.le_trans (show (natsD ps).length ≤ 1000 by unfold natsD; rw [List.length_map]; omega) (by decide), fun _ => true, fun i => (fun p : Nat => PyData.int (gp u p).1) (ps.getD i 0), fun i hi B' => ?_, ?_⟩
    · have hi : i < ps.length := by unfold natsD at hi; rw [List.length_map] at hi; exact hi
      have eN : Px.nth (natsD ps) i = PyData.int (ps[i] : Nat) := nth_map (g := fun n : Nat => PyData.int (n : Int)) hi
      have eG : ps.getD i 0 = ps[i] := getD_at hi
      have hm := hpl _ (List.getElem_mem hi)
      generalize ps[i] = p at eN eG hm
      rw [eN]
      repeat infer_instance
      refine ⟨_, at_map (by rw [lu]; exact hm), ?_⟩
      rw [gp_get (by rw [lu]; exact hm)]
      unfold strD
      repeat infer_instance
      exact ⟨by show PyData.int (gp u p).1 = PyData.int (gp u (ps.getD i 0)).1; rw [eG], rfl⟩
    rw [show (natsD ps).length = ps.length from List.length_map _, fil_all 0 ps (fun p : Nat => PyData.int (gp u p).1)]
    rw [show (ps.map fun p : Nat => PyData.int (gp u p).1) = (ps.map fun p => (gp u p).1).map PyData.int from List.map_map.symm]
    refine sum_lst (ints_isI _) ?_
    rw [asIs_ints]
    repeat infer_instance
    ((with_reducible apply gf_lk); (eq_refl); (assumption); (eq_refl); (eq_refl); (eq_refl); (intro _; eq_refl))
    repeat infer_instance
    refine ⟨_, at_map hi, ?_⟩
    rw [pt_get hi, hps]
    repeat infer_instance
    refine ⟨Nat.le_trans (show (natsD ps).length ≤ 1000 by unfold natsD; rw [List.length_map]; omega) (by decide), fun _ => true, fun i => (fun p : Nat => PyData.int (gp u p).2) (ps.getD i 0), fun i hi B' => ?_, ?_⟩
    · have hi : i < ps.length := by unfold natsD at hi; rw [List.length_map] at hi; exact hi
      have eN : Px.nth (natsD ps) i = PyData.int (ps[i] : Nat) := nth_map (g := fun n : Nat => PyData.int (n : Int)) hi
      have eG : ps.getD i 0 = ps[i] := getD_at hi
      have hm := hpl _ (List.getElem_mem hi)
      generalize ps[i] = p at eN eG hm
      rw [eN]
      repeat infer_instance
      refine ⟨_, at_map (by rw [lu]; exact hm), ?_⟩
      rw [gp_get (by rw [lu]; exact hm)]
      unfold strD
      repeat infer_instance
      exact ⟨by show PyData.int (gp u p).2 = PyData.int (gp u (ps.getD i 0)).2; rw [eG], rfl⟩
    rw [show (natsD ps).length = ps.length from List.length_map _, fil_all 0 ps (fun p : Nat => PyData.int (gp u p).2)]
    rw [show (ps.map fun p : Nat => PyData.int (gp u p).2) = (ps.map fun p => (gp u p).2).map PyData.int from List.map_map.symm]
    refine sum_lst (ints_isI _) ?_
    rw [asIs_ints]
    repeat infer_instance
    refine ⟨_, at_map hi, ?_⟩
    rw [pt_get hi, hps]
    rw [show (ps.map fun p => (gp u p).1).sum = PtA.sm ps (fun p => (gp u p).1) from rfl, show (ps.map fun p => (gp u p).2).sum = PtA.sm ps (fun p => (gp u p).2) from rfl]
    generalize (PtA.sm ps fun p => (gp u p).1) = least at eD ⊢
    generalize (PtA.sm ps fun p => (gp u p).2) = most at eD ⊢
    show ∃ I, _
    refine ⟨fun j Γ => ∃ (s7 s10 s11 : Sl), Γ = [.d (.list (pss.map fun ps => .list (natsD ps))), .v (.ref a), .d (.list (rgD u)), .own ad (rgD (inS u lh.1 lh.2 least most (ps.take j) f0)), .d (.int i), .d (.int lh.1), .d (.int lh.2), s7, .d (.int least), .d (.int most), s10, s11], ⟨_, _, _, rfl⟩, fun _ _ _ _ => trivial, ?_, ?_⟩
    · rintro j Γ hj ⟨s7, s10, s11, rfl⟩
      have hj : j < ps.length := by unfold natsD at hj; rw [List.length_map] at hj; exact hj
      have eN : Px.nth (natsD ps) j = PyData.int (ps[j] : Nat) := nth_map (g := fun n : Nat => PyData.int (n : Int)) hj
      have hp := hpl _ (List.getElem_mem hj)
      have eT : inS u lh.1 lh.2 least most (ps.take (j + 1)) f0 = (inS u lh.1 lh.2 least most (ps.take j) f0).set ps[j] (max (gp u ps[j]).1 (lh.1 - (most - (gp u ps[j]).2)), min (gp u ps[j]).2 (lh.2 - (least - (gp u ps[j]).1))) := by
        rw [List.take_succ, List.getElem?_eq_getElem hj, Option.toList_some, inS_app] <;> rfl
      have lg : (inS u lh.1 lh.2 least most (ps.take j) f0).length = pss.length := inS_len.trans ld
      show GG _ _ _ (Px.nth (natsD ps) j) _ _
      rw [eN]
      generalize inS u lh.1 lh.2 least most (ps.take j) f0 = g0 at eT lg ⊢
      generalize ps[j] = p at eT hp ⊢
      repeat infer_instance
      refine ⟨_, at_map (by rw [lu]; exact hp), ?_⟩
      rw [gp_get (by rw [lu]; exact hp)]
      generalize gp u p = q at eT
      unfold strD
      repeat infer_instance
      rw [mx_eq, mn_eq]
      refine ⟨rgD g0, p, rfl, (p : Int), rfl, by unfold ixN; rw [if_pos (by omega), if_pos (by unfold rgD; rw [List.length_map, lg]; omega), Int.toNat_natCast], ?_⟩
      repeat (with_reducible refine gs_nil ?_)
      refine ⟨.d (.int p), .d (.int q.1), .d (.int q.2), ?_⟩
      have eset : rgD (g0.set p (max q.1 (lh.1 - (most - q.2)), min q.2 (lh.2 - (least - q.1)))) = (rgD g0).set p (.tuple [.int (max q.1 (lh.1 - (most - q.2))), .int (min q.2 (lh.2 - (least - q.1)))]) := by
        unfold rgD
        rw [List.map_set] <;> rfl
      rw [eT, eset] <;> rfl
    · rintro Γ ⟨s7, s10, s11, rfl⟩
      repeat (with_reducible refine gs_nil ?_)
      refine ⟨ad, .d (.int i), .d (.int lh.1), .d (.int lh.2), s7, .d (.int least), .d (.int most), s10, s11, ?_⟩
      unfold natsD
      rw [List.length_map, List.take_length, eD]
  · rintro Γ ⟨ad, s4, s5, s6, s7, s8, s9, s10, s11, rfl⟩
    repeat (with_reducible refine gs_nil ?_)
    show Gs _ _ _ _ _
    refine gs_cons ?_
    repeat infer_instance
    rw [Int.toNat_natCast] <;> rfl
end
end K13
namespace K13
open PySem PySem.Spec PyProof.Rows L2 Tc Px Py PtA PtB PtC
variable [Px.Fld]
local macro_rules | `(tactic| fail "x14GI0") => `(tactic| first
  | ((with_reducible show GI _ _ (Expr.Tuple _ _ _) (Expr.Call (Expr.Name "enumerate" _) [Expr.Call _ _ _ _] _ _) _ _); (with_reducible apply gi_enumL); (eq_refl); (eq_refl); (exact Gls.enumerate (by assumption)); (eq_refl))
  )
local macro_rules | `(tactic| infer_instance) => `(tactic| first
  | ((with_reducible show GI _ _ (Expr.Tuple _ _ _) (Expr.Call (Expr.Name "enumerate" _) [Expr.Call _ _ _ _] _ _) _ _); fail "x14GI0")
  | ((with_reducible show GS _ _ true (Expr.Call _ _ _ _) _ _); (with_reducible refine gs_list ?_))
  | ((with_reducible show GE _ _ (Expr.UnaryOp UnaryOp.Not (Expr.Name "inner" _) _) _ _); (with_reducible refine ge_notL ?_))
  )
section
variable {P : Program} {w : World} {K : PySem.W.Frag} {mg : Str → Option Value} {base : Heap}
theorem sc_total : FnScope ["numbers", "indexes", "at"] ["numbers", "indexes"] (defScope s_total) := ⟨rfl, rfl, rfl, by decide +kernel, rfl, by decide +kernel, by decide +kernel⟩
theorem sc_is_count : FnScope ["areas", "value", "at", "stretch", "inner"] ["areas", "value"] (defScope s_is_count) := ⟨rfl, rfl, rfl, by decide +kernel, rfl, by decide +kernel, by decide +kernel⟩
abbrev preTot (ds : List PyData) : Prop := ∃ (ns : List Int) (ps : List Nat), ds = [.tuple (ns.map .int), .list (natsD ps)] ∧ (∀ p ∈ ps, p < ns.length) ∧ ps.length ≤ 10
def decN (ds : List PyData) : List Nat := ds.map fun y => match y with
  | .int i => i.toNat
  | _ => 0
theorem dec_N (ps : List Nat) : decN (natsD ps) = ps := by
  unfold natsD decN
  rw [List.map_map]
  exact (List.map_congr_left fun n _ => Int.toNat_natCast n).trans (List.map_id' ps)
def totD : List PyData → PyData
  | [.tuple xs, .list ys] => .int (PtA.sm (decN ys) (gi (xs.map asI)))
  | _ => .none
theorem tot_eq (ns : List Int) (ps : List Nat) : totD [.tuple (ns.map .int), .list (natsD ps)] = .int (PtA.sm ps (gi ns)) := by
  show PyData.int (PtA.sm (decN (natsD ps)) (gi ((ns.map PyData.int).map asI))) = _
  rw [dec_N, asIs_ints]
theorem gi_get {l : List Int} {a : Nat} (h : a < l.length) : l[a] = gi l a := (getD_at h).symm
theorem ok_total {f : Addr} {fd : FuncData} (F : Fun K "_total" "_total" s_total f fd) (sm : ∃ o, K.lookup sysModules = some o) (B : Gls mg) :
    FnG P w K mg base (L2.CX P w) 1 f fd ["numbers", "indexes"] (spF 2 preTot fun ds => .ok (totD ds)) := by
  refine fn_data F sc_total sm (by decide) _ _ fun cdv A outer s H E Bs ds hl hp c ex => ?_
  obtain ⟨ns, ps, rfl, hlt, hp10⟩ := hp
  rw [tot_eq]
  have nd := sc_total.nd
  refine gs_cons ?_
  repeat infer_instance
  ((with_reducible apply gf_lk); (eq_refl); (assumption); (eq_refl); (eq_refl); (eq_refl); (intro _; eq_refl))
  repeat infer_instance
  refine ⟨Nat.le_trans (show (natsD ps).length ≤ 1000 by unfold natsD; rw [List.length_map]; omega) (by decide), fun _ => true, fun i => (fun p : Nat => PyData.int (gi ns p)) (ps.getD i 0), fun i hi B' => ?_, ?_⟩
  · have hi : i < ps.length := by unfold natsD at hi; rw [List.length_map] at hi; exact hi
    have eN : Px.nth (natsD ps) i = PyData.int (ps[i] : Nat) := nth_map (g := fun n : Nat => PyData.int (n : Int)) hi
    have eG : ps.getD i 0 = ps[i] := getD_at hi
    have hm := hlt _ (List.getElem_mem hi)
    generalize ps[i] = p at eN eG hm
    rw [eN]
    repeat infer_instance
    refine ⟨_, at_map hm, ?_⟩
    rw [gi_get hm]
    exact ⟨by show PyData.int (gi ns p) = PyData.int (gi ns (ps.getD i 0)); rw [eG], rfl⟩
  rw [show (natsD ps).length = ps.length from List.length_map _, fil_all 0 ps (fun p : Nat => PyData.int (gi ns p))]
  rw [show (ps.map fun p : Nat => PyData.int (gi ns p)) = (ps.map fun p => gi ns p).map PyData.int from List.map_map.symm]
  refine sum_lst (ints_isI _) ?_
  rw [asIs_ints]
  repeat infer_instance
  exact rfl
theorem lie0 {L : List Ln} {c : Nat → Int} (h : LinesOk L) (C : Count L.length (pt (pssS (shOf L))) (gp (spans L)) c) {k : Nat} (hk : k < L.length) : 0 ≤ c k := by
  have h1 := (C.lie k hk).1
  have hs : k < (spans L).length := by unfold spans; rw [List.length_map]; exact hk
  rw [← gp_get hs] at h1
  have e : (spans L)[k] = L[k].2.2 := List.getElem_map _
  rw [e] at h1
  have := (h.mem (List.getElem_mem hk)).2.2.1
  omega
theorem all_true : ∀ n, ((List.range n).all fun _ => true) = true := fun n => List.all_eq_true.mpr fun _ _ => rfl
theorem lies_in_ok {n lo hi : Int} (h1 : lo ≤ n) (h2 : n ≤ hi) : liesB [.int n, .tuple [.int lo, .int hi]] = true := by
  show (decide _ && decide _) = true
  rw [decide_eq_true h1, decide_eq_true h2] <;> rfl
theorem few_ok {L : List Ln} (h : LinesOk L) {i : Nat} (hi : i < L.length) : (pt (pssS (shOf L)) i).length ≤ 10 := by
  have h1 := h.one
  have h2 := h.ten
  rw [pt_in (by rw [sh_len]; omega)]
  unfold psS
  refine Nat.le_trans (List.length_filter_le _ _) ?_
  rw [List.length_range, sh_len]
  omega
abbrev preIC (C : Addr) (ds : List PyData) : Prop := ∃ (L : List Ln) (c : Nat → Int), ds = [inst C (arF L), .tuple ((lst L.length c).map .int)] ∧ LinesOk L ∧ Count L.length (pt (pssS (shOf L))) (gp (spans L)) c
abbrev FNA (P : Program) (w : World) (K : PySem.W.Frag) (mg : Str → Option Value) (base : Heap) (C : Addr) : Prop := Call P w K mg base (L2.CX P w) 1 "need_areas" ["areas"] (spF 1 (fun ds => ∃ fs, ds = [inst C fs]) fun _ => .ok .none)
abbrev FSO (P : Program) (w : World) (K : PySem.W.Frag) (mg : Str → Option Value) (base : Heap) (C : Addr) : Prop := Call P w K mg base (L2.CX P w) 3 "stretches_of" ["areas"] (spF 1 (preAr C) fun ds => .ok (.list (rgD (spans (decA ds)))))
abbrev FPO (P : Program) (w : World) (K : PySem.W.Frag) (mg : Str → Option Value) (base : Heap) (C : Addr) : Prop := Call P w K mg base (L2.CX P w) 4 "parts_of" ["areas"] (spF 1 (preAr C) fun ds => .ok (partsD (pssS (shOf (decA ds)))))
abbrev LAr (P : Program) (w : World) (K : PySem.W.Frag) (mg : Str → Option Value) (base : Heap) (C : Addr) : Prop := LenC P w K mg base C 1 (preAr C) fun ds => .ok (.int ((decA ds).length : Nat))
theorem ok_is_count {C : Addr} (F0 : FNA P w K mg base C) (F1 : Call P w K mg base (L2.CX P w) 3 "are_numbers" ["value", "many"] (spF 2 (fun ds => ∃ d m, ds = [d, .int m] ∧ pl1D d ∧ m ≤ 1000) fun ds => .ok (numsD ds))) (L0 : LAr P w K mg base C)
    (F2 : Call P w K mg base (L2.CX P w) 1 "lies_in" ["number", "stretch"] (spF 2 (fun ds => ∃ n lo hi : Int, ds = [.int n, .tuple [.int lo, .int hi]]) fun ds => .ok (.bool (liesB ds)))) (F3 : FSO P w K mg base C) (F4 : FPO P w K mg base C)
    (F5 : Call P w K mg base (L2.CX P w) 1 "_total" ["numbers", "indexes"] (spF 2 preTot fun ds => .ok (totD ds))) {f : Addr} {fd : FuncData} (F : Fun K "is_count" "is_count" s_is_count f fd) (sm : ∃ o, K.lookup sysModules = some o) (B : Gls mg) :
    FnG P w K mg base (L2.CX P w) 5 f fd ["areas", "value"] (spF 2 (preIC C) fun _ => .ok (.bool true)) := by
  refine fn_data F sc_is_count sm (by decide) _ _ fun cdv A outer s H E Bs ds hl hp c ex => ?_
  obtain ⟨L, cn, rfl, hL, hC⟩ := hp
  have nd := sc_is_count.nd
  have h2 := hL.ten
  have lc : ((lst L.length cn).map PyData.int).length = L.length := by rw [List.length_map, lst_len]
  refine gs_cons ?_
  repeat infer_instance
  refine ⟨⟨_, rfl⟩, ?_⟩
  repeat infer_instance
  refine ⟨_, (L.length : Nat), rfl, ⟨L, rfl, hL⟩, by rw [dec_A], ⟨by omega, by omega⟩, ?_⟩
  repeat infer_instance
  have hnum : numsD [.tuple ((lst L.length cn).map .int), .int (L.length : Nat)] = .bool true := by
    show PyData.bool (decide _ && _) = _
    rw [lc, decide_eq_true rfl, Bool.true_and]
    refine congrArg PyData.bool (List.all_eq_true.mpr fun x hx => ?_)
    obtain ⟨k, hk, rfl⟩ := List.mem_map.mp hx
    obtain ⟨j, hj, rfl⟩ := List.mem_map.mp hk
    exact decide_eq_true (lie0 hL hC (List.mem_range.mp hj))
  refine ⟨⟨_, _, rfl, ⟨rfl, fun xs e x hx => ?_⟩, by omega⟩, to_ok ?_⟩
  · cases e
    obtain ⟨k, hk, rfl⟩ := List.mem_map.mp hx
    rfl
  rw [hnum]
  repeat infer_instance
  repeat (with_reducible refine gs_nil ?_)
  show Gs _ _ _ _ _
  refine gs_cons ?_
  repeat infer_instance
  ((with_reducible apply gf_lk); (eq_refl); (assumption); (eq_refl); (eq_refl); (eq_refl); (intro _; eq_refl))
  repeat infer_instance
  refine ⟨⟨L, rfl, hL⟩, to_ok ?_⟩
  rw [dec_A]
  have ls : (spans L).length = L.length := List.length_map _
  have lr : (rgD (spans L)).length = L.length := (List.length_map _).trans ls
  refine ⟨_, rfl, trivial, trivial, Nat.le_trans (show (rgD (spans L)).length ≤ 1000 by omega) (by decide), fun _ => true, fun _ => .bool true, fun i hi B' => ?_, ?_⟩
  · have hi : i < L.length := by rw [← lr]; exact hi
    have eN : Px.nth (rgD (spans L)) i = strD (spans L)[i] := nth_map (by rw [ls]; exact hi)
    have q := hC.lie i hi
    have eG : (spans L)[i]'(by rw [ls]; exact hi) = gp (spans L) i := gp_get _
    have ev : (lst L.length cn)[i]'(by rw [lst_len]; exact hi) = cn i := by rw [gi_get, gi_lst hi]
    repeat infer_instance
    rw [eN, eG]
    unfold strD
    repeat infer_instance
    refine ⟨_, at_map (by rw [lst_len]; exact hi), ?_⟩
    rw [ev]
    repeat infer_instance
    refine ⟨⟨_, _, _, rfl⟩, to_ok ?_⟩
    refine ⟨?_, rfl⟩
    show PyData.bool _ = .bool true
    exact congrArg PyData.bool (lies_in_ok q.1 q.2)
  refine all_rng (g := fun _ => true) ?_
  rw [all_true]
  refine ⟨true, rfl, ?_⟩
  show if false = true then _ else _
  rw [if_neg (fun z => nomatch z)]
  repeat (with_reducible refine gs_nil ?_)
  show Gs _ _ _ _ _
  refine gs_cons ?_
  repeat infer_instance
  ((with_reducible apply gf_lk); (eq_refl); (assumption); (eq_refl); (eq_refl); (eq_refl); (intro _; eq_refl))
  repeat infer_instance
  refine ⟨⟨L, rfl, hL⟩, to_ok ?_⟩
  rw [dec_A]
  have lp : (pssS (shOf L)).length = L.length := by rw [pss_len, sh_len]; have := hL.one; omega
  have lq : ((pssS (shOf L)).map fun ps => PyData.list (natsD ps)).length = L.length := (List.length_map _).trans lp
  refine ⟨_, rfl, trivial, trivial, Nat.le_trans (show ((pssS (shOf L)).map fun ps => PyData.list (natsD ps)).length ≤ 1000 by omega) (by decide), fun _ => true, fun _ => .bool true, fun i hi B' => ?_, ?_⟩
  · have hi : i < L.length := by rw [← lq]; exact hi
    have hi2 : i < (pssS (shOf L)).length := by rw [lp]; exact hi
    have eN : Px.nth ((pssS (shOf L)).map fun ps => PyData.list (natsD ps)) i = .list (natsD (pt (pssS (shOf L)) i)) := by rw [nth_map hi2, pt_get hi2]
    have q := hC.sum i hi
    have ev : (lst L.length cn)[i]'(by rw [lst_len]; exact hi) = cn i := by rw [gi_get, gi_lst hi]
    have hT := tree_of (sh_ok hL)
    have hin : ∀ p ∈ pt (pssS (shOf L)) i, p < L.length := fun p hp => by
      have := (PtA.part_gt hT hp).2
      rw [sh_len] at this
      have := hL.one
      omega
    have hfew : (pt (pssS (shOf L)) i).length ≤ 10 := few_ok hL hi
    repeat infer_instance
    rw [eN]
    generalize pt (pssS (shOf L)) i = ps at q hin hfew ⊢
    refine ⟨natsD ps, rfl, ?_⟩
    cases ps with
    | nil =>
      refine ⟨true, rfl, ?_⟩
      rw [if_pos rfl]
      exact ⟨rfl, rfl⟩
    | cons p0 ps =>
    refine ⟨false, rfl, ?_⟩
    rw [if_neg (fun z => nomatch z)]
    repeat infer_instance
    refine ⟨_, at_map (by rw [lst_len]; exact hi), ?_⟩
    rw [ev]
    repeat infer_instance
    refine ⟨⟨_, _, rfl, fun p hp => by rw [lst_len]; exact hin p hp, hfew⟩, to_ok ?_⟩
    rw [tot_eq]
    have e4 : PtA.sm (p0 :: ps) (gi (lst L.length cn)) = PtA.sm (p0 :: ps) cn := PtA.sm_congr fun p hp => gi_lst (hin p hp)
    rw [e4, ← q (fun z => nomatch z)]
    repeat infer_instance
    rw [eqv_int, decide_eq_true rfl]
    exact ⟨rfl, rfl⟩
  refine all_rng (g := fun _ => true) ?_
  rw [all_true]
end
end K13
namespace K13
open PySem PySem.Spec PyProof.Rows L2 Tc Px Py PtA PtB PtC
variable [Px.Fld]
local macro_rules | `(tactic| fail "x15GF0") => `(tactic| first
  | ((with_reducible show GF _ _ (Expr.Call (Expr.Name "stretches_of" _) (_ :: _) [] _) _ _); (with_reducible apply gf_callN); (case F => with_reducible assumption); (exact ⟨rfl, rfl, rfl, rfl, rfl⟩); (first | with_reducible assumption | exact Bod.toCxt (by with_reducible assumption)); (eq_refl); (eq_refl); rotate_left; (decide); (exact star_cons rfl); (eq_refl))
  )
local macro_rules | `(tactic| fail "x15G11") => `(tactic| first
  | ((with_reducible show G1 _ _ (Stmt.Assign [Expr.Name _ _] (Expr.Call (Expr.Name "stretches_of" _) [_] _ _) _) _ _); (with_reducible apply set_l); (with_reducible assumption); (eq_refl); (eq_refl); rotate_left; (eq_refl))
  )
local macro_rules | `(tactic| infer_instance) => `(tactic| first
  | ((with_reducible show GF _ _ (Expr.Call (Expr.Name "stretches_of" _) (_ :: _) [] _) _ _); fail "x15GF0")
  | ((with_reducible show G1 _ _ (Stmt.Assign [Expr.Name _ _] (Expr.Call (Expr.Name "stretches_of" _) [_] _ _) _) _ _); fail "x15G11")
  )
section
variable {P : Program} {w : World} {K : PySem.W.Frag} {mg : Str → Option Value} {base : Heap}
abbrev FSN (P : Program) (w : World) (K : PySem.W.Frag) (mg : Str → Option Value) (base : Heap) (C : Addr) : Prop := Call P w K mg base (L2.CX P w) 3 "stretches_of" ["areas"] (spN 1 (preAr C) fun ds => rgD (spans (decA ds)))
theorem ok_stretches_new {C : Addr} (DL : PropD P w K mg base C "lines" "_lines" 1) {f : Addr} {fd : FuncData} (F : Fun K "stretches_of" "stretches_of" s_stretches_of f fd) (sm : ∃ o, K.lookup sysModules = some o) (B : Gls mg) :
    FnG P w K mg base (L2.CX P w) 3 f fd ["areas"] (spN 1 (preAr C) fun ds => rgD (spans (decA ds))) := by
  refine fn_new F sc_stretches_of sm (by decide) _ _ fun cdv A outer s H E Bs ds hl hp c => ?_
  obtain ⟨L, rfl, hL⟩ := hp
  rw [dec_A]
  have nd := sc_stretches_of.nd
  have h2 := hL.ten
  refine gsn_ret ?_
  ((with_reducible apply gf_lk); (eq_refl); (assumption); (eq_refl); (eq_refl); (eq_refl); (intro _; eq_refl))
  repeat infer_instance
  refine ⟨_, _, rfl, rfl, ?_⟩
  unfold linesD
  repeat infer_instance
  refine ⟨Nat.le_trans (show (L.map lineD).length ≤ 1000 by rw [List.length_map]; omega) (by decide), fun _ => true, fun i => (fun l : Ln => strD l.2.2) (L.getD i ln0), fun i hi B' => ?_, ?_⟩
  · have hi : i < L.length := by rw [List.length_map] at hi; exact hi
    have eN : nth (L.map lineD) i = lineD L[i] := nth_map hi
    have eG : L.getD i ln0 = L[i] := getD_at hi
    generalize L[i] = v at eN eG
    rw [eN]
    unfold lineD
    repeat infer_instance
    exact ⟨by show strD v.2.2 = strD (L.getD i ln0).2.2; rw [eG], rfl⟩
  rw [show (L.map lineD).length = L.length from List.length_map _, fil_all ln0 L (fun l : Ln => strD l.2.2)]
  unfold rgD spans
  rw [List.map_map] <;> rfl
theorem treeR_len {pss : List (List Nat)} {str r : List Rg} (h : treeR pss str = some r) : r.length = str.length := by
  unfold treeR at h
  cases q : upS pss str pss.length with
  | none => rw [q] at h; cases h
  | some u =>
    rw [q] at h
    have h := Option.some.inj h
    rw [← h, downS_len, upS_len _ u q]
theorem tr_ok {L : List Ln} (hL : LinesOk L) {str : List Rg} (hs : str.length = L.length) : TrOk (pssS (shOf L)) str := by
  have h1 := hL.one
  have h2 := hL.ten
  have lp : (pssS (shOf L)).length = L.length := by rw [pss_len, sh_len]; omega
  refine ⟨hs.trans lp.symm, by omega, fun ps hp => ?_, fun ps hp p hm => ?_⟩
  · obtain ⟨i, hi, e⟩ := List.getElem_of_mem hp
    rw [pt_get hi] at e
    rw [← e]
    exact few_ok hL (by omega)
  · obtain ⟨i, hi, e⟩ := List.getElem_of_mem hp
    rw [pt_get hi] at e
    rw [← e] at hm
    have := (PtA.part_gt (tree_of (sh_ok hL)) hm).2
    rw [sh_len] at this
    omega
abbrev FTr (P : Program) (w : World) (K : PySem.W.Frag) (mg : Str → Option Value) (base : Heap) : Prop := Call P w K mg base (L2.CX P w) 4 "tree_ranges" ["parts", "stretches"] (spS 2 (preLst K preTr fun d ps => .ok (rgO (treeR (decP d) (decR ps)))))
end
end K13
namespace K13
open PySem PySem.Spec PyProof.Rows L2 Tc Px Py PtA PtB PtC
variable [Px.Fld]
section
variable {P : Program} {w : World} {K : PySem.W.Frag} {mg : Str → Option Value} {base : Heap}
theorem sc_ldraw : FnScope ["_law_jar_here", "_law_size", "_law_seed", "_law_by", "_law_digit"] ["_law_jar_here", "_law_size"] (defScope s_ldraw) := ⟨rfl, rfl, rfl, by decide +kernel, rfl, by decide +kernel, by decide +kernel⟩
theorem sc_lpick : FnScope ["_law_jar_here", "_law_menu"] ["_law_jar_here", "_law_menu"] (defScope s_lpick) := ⟨rfl, rfl, rfl, by decide +kernel, rfl, by decide +kernel, by decide +kernel⟩
theorem divp_ok {i j : Int} (h : 0 < j) (h2 : j.natAbs < 2 ^ 600) : CDivP i j := ⟨h, PyProof.noPylong_of_log2 (wide_div h h2 (by decide) (by decide) : CDivW i j).2⟩
/-- a jar -/
def Jar (ms : List PyData) : Prop := ∃ d x c : Int, ms = [.int d, .int x, .int c] ∧ 0 ≤ d ∧ 0 ≤ x
abbrev preDraw (ms ds : List PyData) : Prop := Jar ms ∧ ∃ n : Int, ds = [.int n] ∧ 0 < n ∧ n < 1073741824
abbrev RDraw (_ ds : List PyData) (o : Out) (ms' : List PyData) : Prop := Jar ms' ∧ ∃ n r : Int, ds = [.int n] ∧ o = .ok (.int r) ∧ 0 ≤ r ∧ r < n
theorem ok_ldraw {f : Addr} {fd : FuncData} (F : Fun K "_law_draw" "_law_draw" s_ldraw f fd) (sm : ∃ o, K.lookup sysModules = some o) (B : Gls mg) :
    FnG P w K mg base (L2.CX P w) 1 f fd ["_law_jar_here", "_law_size"] (spP 1 preDraw RDraw) := by
  refine fn_pail F sc_ldraw sm rfl _ _ fun cdv A outer s H E Bs a ms ds hl hp c ex => ?_
  obtain ⟨⟨d, x, cc, rfl, hd, hx⟩, n, rfl, hn, hn2⟩ := hp
  have nd := sc_ldraw.nd
  refine gs_cons ?_
  repeat infer_instance
  have hx1 : 0 ≤ (x * (x % 40009 + 20021) + 60013 * (cc + 1) + 11) % 2147483629 := Int.emod_nonneg _ (by decide)
  generalize (x * (x % 40009 + 20021) + 60013 * (cc + 1) + 11) % 2147483629 = x1 at hx1 ⊢
  by_cases h0 : 0 < d
  · rw [decide_eq_true h0]
    repeat infer_instance
    refine ⟨divp_ok hn (by omega), ?_⟩
    repeat infer_instance
    exact ⟨⟨_, _, _, rfl, Int.ediv_nonneg hd (by omega), hx1⟩, n, d % n, rfl, rfl, Int.emod_nonneg _ (by omega), Int.emod_lt_of_pos _ hn⟩
  · rw [decide_eq_false h0]
    repeat infer_instance
    repeat (with_reducible refine gs_nil ?_)
    show Gs _ _ _ _ _
    refine gs_cons ?_
    repeat infer_instance
    exact ⟨⟨_, _, _, rfl, hd, hx1⟩, n, _, rfl, rfl, Int.emod_nonneg _ (by omega), Int.emod_lt_of_pos _ hn⟩
abbrev FDraw (P : Program) (w : World) (K : PySem.W.Frag) (mg : Str → Option Value) (base : Heap) : Prop := Call P w K mg base (L2.CX P w) 1 "_law_draw" ["_law_jar_here", "_law_size"] (spP 1 preDraw RDraw)
abbrev prePick (ms ds : List PyData) : Prop := Jar ms ∧ ∃ xs : List PyData, ds = [.list xs] ∧ 0 < xs.length ∧ xs.length ≤ 1000
abbrev RPick (_ ds : List PyData) (o : Out) (ms' : List PyData) : Prop := Jar ms' ∧ ∃ (xs : List PyData) (x : PyData), ds = [.list xs] ∧ o = .ok x ∧ x ∈ xs
theorem ok_lpick (F1 : FDraw P w K mg base) {f : Addr} {fd : FuncData} (F : Fun K "_law_pick" "_law_pick" s_lpick f fd) (sm : ∃ o, K.lookup sysModules = some o) (B : Gls mg) :
    FnG P w K mg base (L2.CX P w) 2 f fd ["_law_jar_here", "_law_menu"] (spP 1 prePick RPick) := by
  refine fn_pail F sc_lpick sm rfl _ _ fun cdv A outer s H E Bs a ms ds hl hp c ex => ?_
  obtain ⟨hj, xs, rfl, h0, h1⟩ := hp
  have nd := sc_lpick.nd
  refine gs_cons ?_
  repeat infer_instance
  refine ⟨⟨hj, _, rfl, by omega, by omega⟩, fun o ms' ⟨hj', n, r, e, eo, r0, r1⟩ => ?_⟩
  cases e
  subst eo
  have hr : r = ((r.toNat : Nat) : Int) := by omega
  have hlt : r.toNat < xs.length := by omega
  generalize r.toNat = k at hr hlt
  subst hr
  refine to_ok ?_
  repeat infer_instance
  refine ⟨xs[k], ?_, ?_⟩
  · have := at_map (g := fun x : PyData => x) hlt
    rw [List.map_id'] at this
    exact this
  exact ⟨ms', rfl, hj', xs, xs[k], rfl, rfl, List.getElem_mem hlt⟩
end
end K13
namespace K13
open PySem PySem.Spec PyProof.Rows L2 Tc Px Py PtA PtB PtC
variable [Px.Fld]
local macro_rules | `(tactic| fail "x17G10") => `(tactic| first
  | ((with_reducible show G1 _ _ (Stmt.Assign [Expr.Tuple [Expr.Name _ _, Expr.Name _ _] _ _] (Expr.Tuple [Expr.List _ _, _] _ _) _) _ _); (with_reducible apply par_onC); (with_reducible assumption); (assumption); (eq_refl); (eq_refl); (eq_refl); (eq_refl); (eq_refl); (first | exact .inl rfl | exact .inr rfl); (first | exact .inl rfl | exact .inr rfl); (eq_refl); (eq_refl); (eq_refl); (eq_refl); (eq_refl); (eq_refl); (eq_refl); (exact star_cons rfl); (exact star_cons rfl))
  )
local macro_rules | `(tactic| infer_instance) => `(tactic| first
  | ((with_reducible show G1 _ _ (Stmt.Assign [Expr.Tuple [Expr.Name _ _, Expr.Name _ _] _ _] (Expr.Tuple [Expr.List _ _, _] _ _) _) _ _); fail "x17G10")
  )
local macro_rules | `(tactic| infer_instance) => `(tactic| first
  | ((with_reducible show GT _ _ (Expr.Compare _ [CmpOp.NotIn] [Expr.Name "_law_found" _] _) _ _); (refine gt_notin true (by with_unfolding_all rfl) ?_))
  | ((with_reducible show G1 _ _ (Stmt.Assign [Expr.Name _ _] (Expr.BinOp (Expr.List _ _) Operator.Mult _ _) _) _ _); (with_reducible apply set_l); (with_reducible assumption); (eq_refl); (eq_refl); rotate_left; (eq_refl))
  | ((with_reducible show GI _ _ (Expr.Tuple _ _ _) (Expr.Call (Expr.Name "zip" _) _ _ _) _ _); (with_reducible apply gi_zip true ?kk); (eq_refl); (eq_refl); (exact Gls.zip (by assumption)); (eq_refl); (eq_refl); (eq_refl))
  | ((with_reducible show GI _ _ _ (Expr.Call (Expr.Name "range" _) [_, _, _] _ _) _ _); (with_reducible apply gi_rg3); (with_reducible eq_refl); (eq_refl); (exact Gls.range (by assumption)); rotate_left; (eq_refl); (eq_refl))
  | ((with_reducible show GS _ _ true (Expr.Call _ _ _ _) _ _); (with_reducible refine gs_list ?_))
  | ((with_reducible show GS _ _ _ (Expr.Name _ _) _ _); (with_reducible refine gs_sel ?_))
  | ((with_reducible show GT _ _ (Expr.Compare _ [CmpOp.NotIn] [Expr.Name "_law_shape" _] _) _ _); (refine gt_notin true (by with_unfolding_all rfl) ?_))
  | ((with_reducible show GQ _ _ true (Expr.Name "_law_shape" _) _ _); (with_reducible refine gq_of ?_))
  )
theorem gs_sel {B : Bas} {X : Cx} {Γ : List Sl} {k : Bool} {e : Expr} {φ : List PyData → (List Sl → Prop) → List Sl → Prop} (h : GE B X e Γ fun d Γ1 => ∃ ds, d = (if k = true then .list ds else .tuple ds) ∧ φ ds (fun _ => True) Γ1) : GS B X k e Γ φ := by
  cases k with
  | true => exact gs_list h
  | false => exact gs_tup h
section
variable {P : Program} {w : World} {K : PySem.W.Frag} {mg : Str → Option Value} {base : Heap}
theorem sc_ltags : FnScope ["_law_jar_here", "_law_many", "_law_found", "_law_menu", "_law_turn", "_law_each"] ["_law_jar_here", "_law_many"] (defScope s_ltags) := ⟨rfl, rfl, rfl, by decide +kernel, rfl, by decide +kernel, by decide +kernel⟩
theorem sc_lleaves : FnScope ["_law_shape", "_law_k"] ["_law_shape"] (defScope s_lleaves) := ⟨rfl, rfl, rfl, by decide +kernel, rfl, by decide +kernel, by decide +kernel⟩
theorem sc_lsums : FnScope ["_law_shape", "_law_numbers", "_law_found", "_law_k", "_law_number"] ["_law_shape", "_law_numbers"] (defScope s_lsums) := ⟨rfl, rfl, rfl, by decide +kernel, rfl, by decide +kernel, by decide +kernel⟩
theorem sc_llie : FnScope ["_law_numbers", "_law_lines", "_law_number", "_law_line"] ["_law_numbers", "_law_lines"] (defScope s_llie) := ⟨rfl, rfl, rfl, by decide +kernel, rfl, by decide +kernel, by decide +kernel⟩
abbrev FPick (P : Program) (w : World) (K : PySem.W.Frag) (mg : Str → Option Value) (base : Heap) : Prop := Call P w K mg base (L2.CX P w) 2 "_law_pick" ["_law_jar_here", "_law_menu"] (spP 1 prePick RPick)
def menuL : List Str := ["all", "a", "b", "north", "in", "less", "more", "zz", "abcdefgh", "row", "count", "area", "x"]
/-- no name twice (told so, for the tactics look for a Nodup) -/
structure Dist (zs : List Str) : Prop where
  nd : zs.Nodup
theorem strs_pl (zs : List Str) : (strsD zs).all plainD = true := List.all_eq_true.mpr fun x hx => by
  obtain ⟨z, _, rfl⟩ := List.mem_map.mp hx
  rfl
theorem len_sub : ∀ {l zs : List Str}, l.Nodup → l ⊆ zs → l.length ≤ zs.length
  | [], _, _, _ => Nat.zero_le _
  | a :: l, zs, nd, hs => by
    obtain ⟨n1, n2⟩ := List.nodup_cons.mp nd
    have ha : a ∈ zs := hs (.head _)
    have h := len_sub (zs := zs.erase a) n2 fun z hz => (List.mem_erase_of_ne fun e : z = a => n1 (by rw [← e]; exact hz)).mpr (hs (.tail _ hz))
    rw [List.length_erase_of_mem ha] at h
    have := List.length_pos_of_mem ha
    show l.length + 1 ≤ _
    omega
theorem pick_pos {zs : List Str} (h : zs.Nodup) (hl : zs.length < 13) : 0 < (menuL.filter fun z : Str => decide (z ∉ zs)).length := by
  refine Nat.pos_of_ne_zero fun e => ?_
  have e := List.eq_nil_of_length_eq_zero e
  have hs : menuL ⊆ zs := fun z hz => Decidable.byContradiction fun hn => by
    have : z ∈ menuL.filter fun z : Str => decide (z ∉ zs) := List.mem_filter.mpr ⟨hz, decide_eq_true hn⟩
    rw [e] at this
    cases this
  have nd : menuL.Nodup := by decide +kernel
  have := len_sub nd hs
  have : menuL.length = 13 := rfl
  omega
abbrev preTags (ms ds : List PyData) : Prop := Jar ms ∧ ∃ n : Nat, ds = [.int n] ∧ n ≤ 6
abbrev RTags (_ ds : List PyData) (o : Out) (ms' : List PyData) : Prop := Jar ms' ∧ ∃ (n : Nat) (zs : List Str), ds = [.int n] ∧ o = .ok (.list (strsD zs)) ∧ zs.length = n ∧ Dist zs ∧ ∀ z ∈ zs, z ∈ menuL
theorem ok_ltags (F1 : FPick P w K mg base) {f : Addr} {fd : FuncData} (F : Fun K "_law_tags" "_law_tags" s_ltags f fd) (sm : ∃ o, K.lookup sysModules = some o) (B : Gls mg) :
    FnG P w K mg base (L2.CX P w) 3 f fd ["_law_jar_here", "_law_many"] (spP 1 preTags RTags) := by
  refine fn_pail F sc_ltags sm rfl _ _ fun cdv A outer s H E Bs a ms ds hl hp c ex => ?_
  obtain ⟨hj, n, rfl, hn⟩ := hp
  have nd := sc_ltags.nd
  refine gs_cons ?_
  repeat infer_instance
  refine ⟨by omega, by omega, fun i Γ => ∃ (ms' : List PyData) (zs : List Str) (ad : Addr) (s4 s5 : Sl), Jar ms' ∧ zs.length = i ∧ Dist zs ∧ (∀ z ∈ zs, z ∈ menuL) ∧ Γ = [.own a ms', .d (.int n), .own ad (strsD zs), .d (.list (strsD menuL)), s4, s5], ⟨ms, [], _, _, _, hj, rfl, ⟨List.nodup_nil⟩, (fun _ h => nomatch h), rfl⟩, fun _ _ _ _ => trivial, ?_, ?_⟩
  · rintro i Γ hi ⟨ms', zs, ad, s4, s5, hj, hz, hnd, hm, rfl⟩
    have hi : i < n := by omega
    show GG _ _ _ (.int (0 + (i : Int))) _ _
    rw [Int.zero_add]
    repeat infer_instance
    ((with_reducible apply gf_lk); (eq_refl); (assumption); (eq_refl); (eq_refl); (eq_refl); (intro _; eq_refl))
    repeat infer_instance
    have lm : (strsD menuL).length = menuL.length := List.length_map _
    refine ⟨fun i => decide (menuL.getD i Str.empty ∉ zs), fun i => PyData.str (menuL.getD i Str.empty), fun i hi B' => ?_, ?_⟩
    · have hi : i < menuL.length := by rw [← lm]; exact hi
      have eN : Px.nth (strsD menuL) i = PyData.str menuL[i] := nth_map hi
      have eG : menuL.getD i Str.empty = menuL[i] := getD_at hi
      generalize menuL[i] = z at eN eG
      rw [eN]
      repeat infer_instance
      refine ⟨rfl, strs_pl zs, ?_⟩
      rw [eq_any]
      have ep : (fun i => decide (menuL.getD i Str.empty ∉ zs)) i = !decide (z ∈ zs) := by
        show decide (menuL.getD i Str.empty ∉ zs) = _
        rw [eG]
        by_cases h : z ∈ zs <;> simp [h]
      refine ⟨ep.symm, ?_⟩
      by_cases h : z ∈ zs
      · rw [decide_eq_true h]
        trivial
      · rw [decide_eq_false h]
        repeat infer_instance
        exact ⟨by show PyData.str z = PyData.str (menuL.getD i Str.empty); rw [eG], rfl⟩
    rw [lm, fil_some Str.empty menuL (fun z : Str => decide (z ∉ zs)) (fun z : Str => PyData.str z)]
    repeat infer_instance
    refine ⟨⟨hj, _, rfl, ?_, ?_⟩, fun o ms2 hR => ?_⟩
    · rw [List.length_map]
      exact pick_pos hnd.nd (by omega)
    · rw [List.length_map]
      exact Nat.le_trans (List.length_filter_le _ _) (by decide)
    obtain ⟨hj2, xs, x, e, eo, hx⟩ := hR
    subst eo
    cases e
    obtain ⟨z, hz2, rfl⟩ := List.mem_map.mp hx
    obtain ⟨hz3, hz4⟩ := List.mem_filter.mp hz2
    have hz4 : z ∉ zs := of_decide_eq_true hz4
    refine to_ok ?_
    refine ⟨strsD zs, rfl, Nat.lt_of_le_of_lt (show (strsD zs).length ≤ 1000 by unfold strsD; rw [List.length_map]; omega) (by decide), ?_⟩
    repeat (with_reducible refine gs_nil ?_)
    refine ⟨ms2, zs ++ [z], ad, .d (.int i), .no, hj2, by rw [List.length_append, hz] <;> rfl, ⟨?_⟩, ?_, ?_⟩
    · exact List.nodup_append.mpr ⟨hnd.nd, List.nodup_cons.mpr ⟨(fun h => nomatch h), List.nodup_nil⟩, fun p hp q hq e => by
        obtain rfl := List.mem_singleton.mp hq
        exact hz4 (e ▸ hp)⟩
    · intro p hp
      rcases List.mem_append.mp hp with hp | hp
      · exact hm p hp
      · obtain rfl := List.mem_singleton.mp hp
        exact hz3
    · have es : strsD (zs ++ [z]) = strsD zs ++ [.str z] := List.map_append
      rw [es] <;> rfl
  · rintro Γ ⟨ms', zs, ad, s4, s5, hj, hz, hnd, hm, rfl⟩
    repeat (with_reducible refine gs_nil ?_)
    show Gs _ _ _ _ _
    refine gs_cons ?_
    repeat infer_instance
    exact ⟨hj, n, zs, rfl, rfl, by rw [hz]; omega, hnd, hm⟩
abbrev preLv (ds : List PyData) : Prop := ∃ sh : List Nat, ds = [.list (natsD sh)] ∧ sh.length ≤ 10
def decS : PyData → List Nat
  | .list xs => decN xs
  | _ => []
def lvD (ds : List PyData) : PyData := .list (natsD (lvS (decS (ds.headD .none))))
theorem dec_S (sh : List Nat) : decS (.list (natsD sh)) = sh := dec_N sh
theorem nats_pl (sh : List Nat) : (natsD sh).all plainD = true := List.all_eq_true.mpr fun x hx => by
  obtain ⟨z, _, rfl⟩ := List.mem_map.mp hx
  rfl
theorem nat_any {k : Nat} {sh : List Nat} : ((natsD sh).any fun y => PyData.eqv y (.int (k : Nat))) = decide (k ∈ sh) := by
  induction sh with
  | nil => rfl
  | cons n ns ih =>
    show (PyData.eqv (.int (n : Nat)) (.int (k : Nat)) || (natsD ns).any _) = _
    rw [eqv_int, ih]
    by_cases h : n = k
    · simp [h]
    · have : ¬ ((n : Int) = (k : Int)) := by omega
      simp [h, this]
      omega
theorem ok_lleaves {f : Addr} {fd : FuncData} (F : Fun K "_law_leaves" "_law_leaves" s_lleaves f fd) (sm : ∃ o, K.lookup sysModules = some o) (B : Gls mg) :
    FnG P w K mg base (L2.CX P w) 1 f fd ["_law_shape"] (spF 1 preLv fun ds => .ok (lvD ds)) := by
  refine fn_data F sc_lleaves sm (by decide) _ _ fun cdv A outer s H E Bs ds hl hp c ex => ?_
  obtain ⟨sh, rfl, hs⟩ := hp
  rw [show lvD [.list (natsD sh)] = .list (natsD (lvS (decS (.list (natsD sh))))) from rfl, dec_S]
  have nd := sc_lleaves.nd
  refine gs_cons ?_
  repeat infer_instance
  ((with_reducible apply gf_lk); (eq_refl); (assumption); (eq_refl); (eq_refl); (eq_refl); (intro _; eq_refl))
  repeat infer_instance
  have ls : (natsD sh).length = sh.length := List.length_map _
  rw [ls]
  have eT : ((sh.length : Int) + 1).toNat = sh.length + 1 := by omega
  rw [eT]
  rw [show (fun i : Nat => PyData.int (0 + (i : Int))) = fun i : Nat => PyData.int (i : Int) from funext fun i => by rw [Int.zero_add]]
  refine ⟨by omega, by omega, trivial, Nat.le_trans (show sh.length + 1 ≤ 1000 by omega) (by decide), fun i => decide (i ∉ sh), fun i => .int (i : Nat), fun i hi B' => ?_, ?_⟩
  · repeat infer_instance
    refine ⟨rfl, nats_pl sh, ?_⟩
    rw [nat_any]
    by_cases h : i ∈ sh
    · rw [decide_eq_true h]
      refine ⟨by simp [h], ?_⟩
      trivial
    · rw [decide_eq_false h]
      refine ⟨by simp [h], ?_⟩
      repeat infer_instance
  exact rfl
theorem rep_flat {α : Type} (n : Nat) (x : α) : (List.replicate n [x]).flatten = List.replicate n x := by
  induction n with
  | zero => rfl
  | succ n ih => rw [List.replicate_succ, List.flatten_cons, ih] <;> rfl
theorem setAll_take : ∀ {ks : List Nat} {vs f : List Int} {i : Nat} (h : i < ks.length) (h2 : i < vs.length), setAll (ks.take (i + 1)) (vs.take (i + 1)) f = (setAll (ks.take i) (vs.take i) f).set ks[i] vs[i]
  | k :: ks, v :: vs, f, 0, _, _ => by
    show setAll (ks.take 0) (vs.take 0) (f.set k v) = f.set k v
    rw [List.take_zero, List.take_zero] <;> rfl
  | k :: ks, v :: vs, f, i + 1, h, h2 => setAll_take (ks := ks) (vs := vs) (f := f.set k v) (Nat.lt_of_succ_lt_succ h) (Nat.lt_of_succ_lt_succ h2)
  | [], _, _, _, h, _ => absurd h (Nat.not_lt_zero _)
  | _ :: _, [], _, _, _, h => absurd h (Nat.not_lt_zero _)
abbrev preSums (ds : List PyData) : Prop := ∃ (sh : List Nat) (nums : List Int) (kk : Bool), ds = [.list (natsD sh), if kk = true then .list (nums.map .int) else .tuple (nums.map .int)] ∧ ShOk sh ∧ sh.length ≤ 10 ∧ nums.length = (lvS sh).length
def itemsD : PyData → List Int
  | .list xs => xs.map asI
  | .tuple xs => xs.map asI
  | _ => []
def sumsD : List PyData → PyData
  | [s, d] => .tuple ((sumsL (decS s) (itemsD d)).map .int)
  | _ => .none
abbrev FLv (P : Program) (w : World) (K : PySem.W.Frag) (mg : Str → Option Value) (base : Heap) : Prop := Call P w K mg base (L2.CX P w) 1 "_law_leaves" ["_law_shape"] (spF 1 preLv fun ds => .ok (lvD ds))
theorem ok_lsums (F1 : FLv P w K mg base) {f : Addr} {fd : FuncData} (F : Fun K "_law_sums" "_law_sums" s_lsums f fd) (sm : ∃ o, K.lookup sysModules = some o) (B : Gls mg) :
    FnG P w K mg base (L2.CX P w) 2 f fd ["_law_shape", "_law_numbers"] (spF 2 preSums fun ds => .ok (sumsD ds)) := by
  refine fn_data F sc_lsums sm (by decide) _ _ fun cdv A outer s H E Bs ds hl hp c ex => ?_
  obtain ⟨sh, nums, kk, rfl, hs, h10, hn⟩ := hp
  have ei : itemsD (if kk = true then .list (nums.map .int) else .tuple (nums.map .int)) = nums := by
    cases kk <;> exact asIs_ints nums
  have hd : ∃ d, d = (if kk = true then .list (nums.map .int) else .tuple (nums.map .int) : PyData) := ⟨_, rfl⟩
  obtain ⟨d, hd⟩ := hd
  rw [← hd] at ei hl ex ⊢
  rw [show sumsD [.list (natsD sh), d] = .tuple ((sumsL (decS (.list (natsD sh))) (itemsD d)).map .int) from rfl, dec_S, ei]
  have nd := sc_lsums.nd
  have ls : (natsD sh).length = sh.length := List.length_map _
  have hlv : (natsD (lvS sh)).length = (lvS sh).length := List.length_map _
  have hle : (lvS sh).length ≤ sh.length + 1 := by
    unfold lvS
    exact Nat.le_trans (List.length_filter_le _ _) (Nat.le_of_eq (List.length_range))
  have hrep : (List.replicate (((natsD sh).length : Int) + 1).toNat [PyData.int 0]).flatten = (List.replicate (sh.length + 1) (0 : Int)).map PyData.int := by
    rw [show (((natsD sh).length : Int) + 1).toNat = sh.length + 1 by rw [ls]; omega, List.map_replicate]
    exact rep_flat _ _
  refine gs_cons ?_
  repeat infer_instance
  refine ⟨⟨sh, rfl, h10⟩, to_ok ?_⟩
  rw [show lvD [.list (natsD sh)] = .list (natsD (lvS sh)) from by unfold lvD; rw [List.headD_cons, dec_S]]
  refine ⟨_, rfl, ?_⟩
  refine gs_sel (k := kk) ?_
  repeat infer_instance
  rw [hrep]
  have lnm : (nums.map PyData.int).length = nums.length := List.length_map _
  refine ⟨nums.map .int, hd, trivial, trivial, ?_⟩
  rw [hlv, lnm, hn, Nat.min_self]
  have hlt : ∀ k ∈ lvS sh, k < sh.length + 1 := fun k hk => (lv_mem.mp hk).1
  refine ⟨fun i Γ => ∃ (ad : Addr) (s3 s4 : Sl), Γ = [.d (.list (natsD sh)), .d d, .own ad ((setAll ((lvS sh).take i) (nums.take i) (List.replicate (sh.length + 1) 0)).map .int), s3, s4], ⟨_, _, _, rfl⟩, fun _ _ _ _ => ⟨trivial, trivial⟩, ?_, ?_⟩
  · rintro i Γ hi ⟨ad, s3, s4, rfl⟩
    have hi2 : i < nums.length := by omega
    have e1 : Px.nth (natsD (lvS sh)) i = PyData.int ((lvS sh)[i] : Nat) := nth_map (g := fun n : Nat => PyData.int (n : Int)) hi
    have e2 : Px.nth (nums.map PyData.int) i = PyData.int nums[i] := nth_map hi2
    have hk := hlt _ (List.getElem_mem hi)
    have eS := setAll_take (f := List.replicate (sh.length + 1) 0) hi hi2
    have lf : (setAll ((lvS sh).take i) (nums.take i) (List.replicate (sh.length + 1) (0 : Int))).length = sh.length + 1 := by rw [setAll_len, List.length_replicate]
    generalize setAll ((lvS sh).take i) (nums.take i) (List.replicate (sh.length + 1) (0 : Int)) = f0 at eS lf ⊢
    generalize (lvS sh)[i] = k0 at e1 hk eS
    generalize nums[i] = v0 at e2 eS
    show GG _ _ _ (.tuple [Px.nth (natsD (lvS sh)) i, Px.nth (nums.map PyData.int) i]) _ _
    rw [e1, e2]
    repeat infer_instance
    refine ⟨f0.map .int, k0, rfl, (k0 : Int), rfl, by unfold ixN; rw [if_pos (by omega), if_pos (by rw [List.length_map, lf]; omega), Int.toNat_natCast], ?_⟩
    repeat (with_reducible refine gs_nil ?_)
    refine ⟨ad, .d (.int k0), .d (.int v0), ?_⟩
    rw [eS, List.map_set] <;> rfl
  · rintro Γ ⟨ad, s3, s4, rfl⟩
    repeat (with_reducible refine gs_nil ?_)
    show Gs _ _ _ _ _
    rw [List.take_length, ← hn, List.take_length]
    have lf : (setAll (lvS sh) nums (List.replicate (sh.length + 1) (0 : Int))).length = sh.length + 1 := by rw [setAll_len, List.length_replicate]
    unfold sumsL
    generalize setAll (lvS sh) nums (List.replicate (sh.length + 1) (0 : Int)) = f0 at lf ⊢
    refine gs_cons ?_
    repeat infer_instance
    rw [ls]
    refine ⟨(sh.length : Int), 0, -1, ((sh.length : Int) - 0).toNat, rfl, RgC.neg (by omega) (by omega) (by omega) (by omega), ?_⟩
    rw [show ((sh.length : Int) - 0).toNat = sh.length by omega]
    refine ⟨fun i Γ => ∃ (ad : Addr) (s3 s4 : Sl), Γ = [.d (.list (natsD sh)), .d d, .own ad ((addUp sh f0 i).map .int), s3, s4], ⟨ad, s3, s4, rfl⟩, fun _ _ _ _ => trivial, ?_, ?_⟩
    · rintro i Γ hi ⟨ad, s3, s4, rfl⟩
      have eA : addUp sh f0 (i + 1) = (addUp sh f0 i).set (paS sh (sh.length - i)) (gi (addUp sh f0 i) (paS sh (sh.length - i)) + gi (addUp sh f0 i) (sh.length - i)) := rfl
      have lg : (addUp sh f0 i).length = sh.length + 1 := (addUp_len i).trans lf
      generalize addUp sh f0 i = g0 at eA lg ⊢
      have hp : paS sh (sh.length - i) < sh.length + 1 := Nat.lt_trans (pa_lt hs (by omega) (by omega)) (by omega)
      show GG _ _ _ (.int ((sh.length : Int) + (i : Nat) * (-1))) _ _
      rw [show (sh.length : Int) + (i : Nat) * (-1) = ((sh.length - i : Nat) : Int) by omega]
      have h0 : 0 < sh.length - i := by omega
      have h1 : sh.length - i - 1 < sh.length := by omega
      have h2 : sh.length - i < g0.length := by omega
      generalize sh.length - i = k0 at eA hp h0 h1 h2 ⊢
      have eP : sh[k0 - 1]'h1 = paS sh k0 := (getD_at h1).symm
      repeat infer_instance
      rw [show (k0 : Int) - 1 = ((k0 - 1 : Nat) : Int) by omega]
      refine ⟨_, at_map (g := fun n : Nat => PyData.int (n : Int)) h1, ?_⟩
      rw [eP]
      generalize paS sh k0 = q at eA hp eP ⊢
      have hq : q < g0.length := by rw [lg]; exact hp
      refine ⟨_, rfl, ?_⟩
      repeat infer_instance
      refine ⟨_, at_map hq, ?_⟩
      rw [gi_get hq]
      repeat infer_instance
      refine ⟨_, at_map h2, ?_⟩
      rw [gi_get h2]
      repeat infer_instance
      rw [show (k0 : Int) - 1 = ((k0 - 1 : Nat) : Int) by omega]
      refine ⟨_, at_map (g := fun n : Nat => PyData.int (n : Int)) h1, ?_⟩
      rw [eP]
      refine ⟨g0.map .int, q, rfl, (q : Int), rfl, by unfold ixN; rw [if_pos (by omega), if_pos (by rw [List.length_map]; omega), Int.toNat_natCast], ?_⟩
      repeat (with_reducible refine gs_nil ?_)
      refine ⟨ad, .d (.int k0), s4, ?_⟩
      rw [eA, List.map_set] <;> rfl
    · rintro Γ ⟨ad, s3, s4, rfl⟩
      repeat (with_reducible refine gs_nil ?_)
      show Gs _ _ _ _ _
      refine gs_cons ?_
      repeat infer_instance
      exact rfl
end
end K13
namespace K13
open PySem PySem.Spec PyProof.Rows L2 Tc Px Py PtA PtB PtC
variable [Px.Fld]
local macro_rules | `(tactic| fail "x18G10") => `(tactic| first
  | ((with_reducible show G1 _ _ (Stmt.Assign [Expr.Tuple [Expr.Name _ _, Expr.Name _ _, Expr.Name _ _] _ _] (Expr.Tuple [_, _, Expr.List [] _] _ _) _) _ _); (with_reducible apply par_ddo); (with_reducible assumption); (assumption); (eq_refl); (eq_refl); (eq_refl); (eq_refl); (eq_refl); (eq_refl); (eq_refl); (eq_refl); (eq_refl); (eq_refl); (eq_refl); (eq_refl); (exact star_cons rfl); (exact star_cons rfl); (exact star_cons rfl))
  )
local macro_rules | `(tactic| fail "x18G11") => `(tactic| first
  | ((with_reducible show G1 _ _ (Stmt.Assign [Expr.Tuple [Expr.Name _ _, Expr.Name _ _] _ _] (Expr.Tuple [Expr.List _ _, _] _ _) _) _ _); (with_reducible apply par_onC); (with_reducible assumption); (assumption); (eq_refl); (eq_refl); (eq_refl); (eq_refl); (eq_refl); (first | exact .inl rfl | exact .inr rfl); (first | exact .inl rfl | exact .inr rfl); (eq_refl); (eq_refl); (eq_refl); (eq_refl); (eq_refl); (eq_refl); (eq_refl); (exact star_cons rfl); (exact star_cons rfl))
  )
local macro_rules | `(tactic| infer_instance) => `(tactic| first
  | ((with_reducible show G1 _ _ (Stmt.Assign [Expr.Tuple [Expr.Name _ _, Expr.Name _ _, Expr.Name _ _] _ _] (Expr.Tuple [_, _, Expr.List [] _] _ _) _) _ _); fail "x18G10")
  | ((with_reducible show G1 _ _ (Stmt.Assign [Expr.Tuple [Expr.Name _ _, Expr.Name _ _] _ _] (Expr.Tuple [Expr.List _ _, _] _ _) _) _ _); fail "x18G11")
  )
local macro_rules | `(tactic| infer_instance) => `(tactic| first
  | ((with_reducible show GT _ _ (Expr.Compare _ [CmpOp.NotIn] [Expr.Name "_law_found" _] _) _ _); (refine gt_notin true (by with_unfolding_all rfl) ?_))
  | ((with_reducible show G1 _ _ (Stmt.Assign [Expr.Name _ _] (Expr.BinOp (Expr.List _ _) Operator.Mult _ _) _) _ _); (with_reducible apply set_l); (with_reducible assumption); (eq_refl); (eq_refl); rotate_left; (eq_refl))
  | ((with_reducible show GI _ _ (Expr.Tuple _ _ _) (Expr.Call (Expr.Name "zip" _) _ _ _) _ _); (with_reducible apply gi_zip false false); (eq_refl); (eq_refl); (exact Gls.zip (by assumption)); (eq_refl); (eq_refl); (eq_refl))
  | ((with_reducible show GI _ _ _ (Expr.Call (Expr.Name "range" _) [_, _, _] _ _) _ _); (with_reducible apply gi_rg3); (with_reducible eq_refl); (eq_refl); (exact Gls.range (by assumption)); rotate_left; (eq_refl); (eq_refl))
  | ((with_reducible show GS _ _ true (Expr.Call _ _ _ _) _ _); (with_reducible refine gs_list ?_))
  | ((with_reducible show GS _ _ _ (Expr.Name _ _) _ _); (with_reducible refine gs_sel ?_))
  | ((with_reducible show GT _ _ (Expr.Compare _ [CmpOp.NotIn] [Expr.Name "_law_shape" _] _) _ _); (refine gt_notin true (by with_unfolding_all rfl) ?_))
  | ((with_reducible show GQ _ _ true (Expr.Name "_law_shape" _) _ _); (with_reducible refine gq_of ?_))
  )
section
variable {P : Program} {w : World} {K : PySem.W.Frag} {mg : Str → Option Value} {base : Heap}
def decA1 : PyData → List Ln
  | .tuple xs => xs.map decLn
  | _ => []
theorem dec_A1 (L : List Ln) : decA1 (linesD L) = L := dec_lines L
abbrev preLie (ds : List PyData) : Prop := ∃ (ns : List Int) (L : List Ln), ds = [.tuple (ns.map .int), linesD L] ∧ ns.length = L.length ∧ L.length ≤ 10
def lieL (ns : List Int) (str : List Rg) : Bool := (List.range str.length).all fun i => decide ((gp str i).1 ≤ gi ns i) && decide (gi ns i ≤ (gp str i).2)
def lieD : List PyData → PyData
  | [.tuple xs, d] => .bool (lieL (xs.map asI) (spans (decA1 d)))
  | _ => .none
theorem ok_llie {f : Addr} {fd : FuncData} (F : Fun K "_law_lie" "_law_lie" s_llie f fd) (sm : ∃ o, K.lookup sysModules = some o) (B : Gls mg) :
    FnG P w K mg base (L2.CX P w) 1 f fd ["_law_numbers", "_law_lines"] (spF 2 preLie fun ds => .ok (lieD ds)) := by
  refine fn_data F sc_llie sm (by decide) _ _ fun cdv A outer s H E Bs ds hl hp c ex => ?_
  obtain ⟨ns, L, rfl, hn, h10⟩ := hp
  rw [show lieD [.tuple (ns.map .int), linesD L] = .bool (lieL ((ns.map PyData.int).map asI) (spans (decA1 (linesD L)))) from rfl, asIs_ints, dec_A1]
  have nd := sc_llie.nd
  refine gs_cons ?_
  repeat infer_instance
  ((with_reducible apply gf_lk); (eq_refl); (assumption); (eq_refl); (eq_refl); (eq_refl); (intro _; eq_refl))
  repeat infer_instance
  refine ⟨⟨trivial, trivial⟩, ?_⟩
  have l1 : (ns.map PyData.int).length = L.length := (List.length_map _).trans hn
  have l2 : (L.map lineD).length = L.length := List.length_map _
  rw [l1, l2, Nat.min_self]
  have ls : (spans L).length = L.length := List.length_map _
  refine ⟨Nat.le_trans (show L.length ≤ 1000 by omega) (by decide), fun _ => true, fun i => .bool (decide ((gp (spans L) i).1 ≤ gi ns i) && decide (gi ns i ≤ (gp (spans L) i).2)), fun i hi B' => ?_, ?_⟩
  · have hi1 : i < ns.length := by omega
    have e1 : Px.nth (ns.map PyData.int) i = PyData.int ns[i] := nth_map hi1
    have e2 : Px.nth (L.map lineD) i = lineD L[i] := nth_map hi
    have e4 : (spans L)[i]'(by omega) = L[i].2.2 := List.getElem_map _
    have e3 : gp (spans L) i = L[i].2.2 := (gp_get (show i < (spans L).length by omega)).symm.trans e4
    rw [gi_get hi1] at e1
    rw [show (fun i => PyData.tuple [Px.nth (ns.map PyData.int) i, Px.nth (L.map lineD) i]) i = PyData.tuple [.int (gi ns i), lineD L[i]] from by show PyData.tuple [Px.nth (ns.map PyData.int) i, Px.nth (L.map lineD) i] = _; rw [e1, e2]]
    clear e4 e2
    generalize L[i] = l at e3 ⊢
    unfold lineD strD
    repeat infer_instance
    have eF : ∀ b : Bool, b = (decide (l.2.2.1 ≤ gi ns i) && decide (gi ns i ≤ l.2.2.2)) → PyData.bool b = (fun i => PyData.bool (decide ((gp (spans L) i).1 ≤ gi ns i) && decide (gi ns i ≤ (gp (spans L) i).2))) i := fun b hb => by
      show PyData.bool b = PyData.bool (decide ((gp (spans L) i).1 ≤ gi ns i) && decide (gi ns i ≤ (gp (spans L) i).2))
      rw [e3, hb]
    by_cases q : l.2.2.1 ≤ gi ns i
    · rw [decide_eq_true q]
      repeat infer_instance
      exact ⟨eF _ (by rw [decide_eq_true q, Bool.true_and]), rfl⟩
    · rw [decide_eq_false q]
      repeat infer_instance
      exact ⟨eF _ (by rw [decide_eq_false q, Bool.false_and]), rfl⟩
  refine all_rng (g := fun i => decide ((gp (spans L) i).1 ≤ gi ns i) && decide (gi ns i ≤ (gp (spans L) i).2)) ?_
  show Out.ok (.bool (lieL ns (spans L))) = _
  unfold lieL
  rw [ls] <;> rfl
end
end K13
namespace K13
open PySem PySem.Spec PyProof.Rows L2 Tc Px Py PtA PtB PtC PtD
variable [Px.Fld]
local macro_rules | `(tactic| fail "x19G10") => `(tactic| first
  | ((with_reducible show G1 _ _ (Stmt.Assign [Expr.Tuple [Expr.Name _ _, Expr.Name _ _, Expr.Name _ _] _ _] (Expr.Tuple [_, _, Expr.List [] _] _ _) _) _ _); (with_reducible apply par_ddo); (with_reducible assumption); (assumption); (eq_refl); (eq_refl); (eq_refl); (eq_refl); (eq_refl); (eq_refl); (eq_refl); (eq_refl); (eq_refl); (eq_refl); (eq_refl); (eq_refl); (exact star_cons rfl); (exact star_cons rfl); (exact star_cons rfl))
  )
local macro_rules | `(tactic| fail "x19G11") => `(tactic| first
  | ((with_reducible show G1 _ _ (Stmt.Assign [Expr.Tuple [Expr.Name _ _, Expr.Name _ _] _ _] (Expr.Tuple [Expr.List _ _, _] _ _) _) _ _); (with_reducible apply par_onC); (with_reducible assumption); (assumption); (eq_refl); (eq_refl); (eq_refl); (eq_refl); (eq_refl); (first | exact .inl rfl | exact .inr rfl); (first | exact .inl rfl | exact .inr rfl); (eq_refl); (eq_refl); (eq_refl); (eq_refl); (eq_refl); (eq_refl); (eq_refl); (exact star_cons rfl); (exact star_cons rfl))
  )
local macro_rules | `(tactic| infer_instance) => `(tactic| first
  | ((with_reducible show G1 _ _ (Stmt.Assign [Expr.Tuple [Expr.Name _ _, Expr.Name _ _, Expr.Name _ _] _ _] (Expr.Tuple [_, _, Expr.List [] _] _ _) _) _ _); fail "x19G10")
  | ((with_reducible show G1 _ _ (Stmt.Assign [Expr.Tuple [Expr.Name _ _, Expr.Name _ _] _ _] (Expr.Tuple [Expr.List _ _, _] _ _) _) _ _); fail "x19G11")
  )
local macro_rules | `(tactic| infer_instance) => `(tactic| first
  | ((with_reducible show GT _ _ (Expr.Compare _ [CmpOp.NotIn] [Expr.Name "_law_found" _] _) _ _); (refine gt_notin true (by with_unfolding_all rfl) ?_))
  | ((with_reducible show G1 _ _ (Stmt.Assign [Expr.Name _ _] (Expr.BinOp (Expr.List _ _) Operator.Mult _ _) _) _ _); (with_reducible apply set_l); (with_reducible assumption); (eq_refl); (eq_refl); rotate_left; (eq_refl))
  | ((with_reducible show GI _ _ (Expr.Tuple _ _ _) (Expr.Call (Expr.Name "zip" _) _ _ _) _ _); (with_reducible apply gi_zip false false); (eq_refl); (eq_refl); (exact Gls.zip (by assumption)); (eq_refl); (eq_refl); (eq_refl))
  | ((with_reducible show GI _ _ _ (Expr.Call (Expr.Name "range" _) [_, _, _] _ _) _ _); (with_reducible apply gi_rg3); (with_reducible eq_refl); (eq_refl); (exact Gls.range (by assumption)); rotate_left; (eq_refl); (eq_refl))
  | ((with_reducible show GS _ _ true (Expr.Call _ _ _ _) _ _); (with_reducible refine gs_list ?_))
  | ((with_reducible show GS _ _ _ (Expr.Name _ _) _ _); (with_reducible refine gs_sel ?_))
  | ((with_reducible show GT _ _ (Expr.Compare _ [CmpOp.NotIn] [Expr.Name "_law_shape" _] _) _ _); (refine gt_notin true (by with_unfolding_all rfl) ?_))
  | ((with_reducible show GT _ _ (Expr.Compare _ [CmpOp.In] [Expr.Name "_law_own" _] _) _ _); (refine gt_in true (by with_unfolding_all rfl) ?_))
  | ((with_reducible show GQ _ _ true (Expr.Name "_law_own" _) _ _); (with_reducible refine gq_of ?_))
  | ((with_reducible show GQ _ _ true (Expr.Name "_law_shape" _) _ _); (with_reducible refine gq_of ?_))
  )
section
variable {P : Program} {w : World} {K : PySem.W.Frag} {mg : Str → Option Value} {base : Heap}
/-- areas of the shape of drawn ones -/
structure Bse (zs : List Str) (sh : List Nat) (sp : List Rg) : Prop where
  five : sh.length ≤ 5
  nam : zs.length = sh.length + 1
  len : sp.length = sh.length + 1
  dist : Dist zs
  men : ∀ z ∈ zs, z ∈ menuL
  shp : ShOk sh
  low : ∀ k, k < sh.length + 1 → 0 ≤ (gp sp k).1 ∧ (gp sp k).1 ≤ (gp sp k).2 ∧ (gp sp k).2 ≤ 60
/-- the areas that are drawn -/
structure Land (zs : List Str) (sh : List Nat) (sp : List Rg) : Prop extends Bse zs sh sp where
  thin : ∀ k ∈ lvS sh, (gp sp k).2 ≤ (gp sp k).1 + 2
  lfh : ∀ k ∈ lvS sh, (gp sp k).2 ≤ 10
def zg (zs : List Str) (k : Nat) : Str := zs.getD k Str.empty
def landAt (zs : List Str) (sh : List Nat) (sp : List Rg) (k : Nat) : Ln := (zg zs k, if k = 0 then Str.empty else zg zs (paS sh k), gp sp k)
def landL (zs : List Str) (sh : List Nat) (sp : List Rg) : List Ln := (List.range (sh.length + 1)).map (landAt zs sh sp)
abbrev FTags (P : Program) (w : World) (K : PySem.W.Frag) (mg : Str → Option Value) (base : Heap) : Prop := Call P w K mg base (L2.CX P w) 3 "_law_tags" ["_law_jar_here", "_law_many"] (spP 1 preTags RTags)
abbrev FSums (P : Program) (w : World) (K : PySem.W.Frag) (mg : Str → Option Value) (base : Heap) : Prop := Call P w K mg base (L2.CX P w) 2 "_law_sums" ["_law_shape", "_law_numbers"] (spF 2 preSums fun ds => .ok (sumsD ds))
theorem shok_snoc {sh : List Nat} {q : Nat} (h : ShOk sh) (hq : q ≤ sh.length) : ShOk (sh ++ [q]) := fun k hk => by
  rw [List.length_append] at hk
  have hk : k < sh.length + 1 := hk
  by_cases e : k < sh.length
  · rw [List.getD_eq_getElem?_getD, List.getElem?_append_left e, ← List.getD_eq_getElem?_getD]
    exact h k e
  · have : k = sh.length := by omega
    subst this
    rw [List.getD_eq_getElem?_getD, List.getElem?_append_right (Nat.le_refl _), Nat.sub_self]
    exact hq
theorem gp_snoc {l : List Rg} {v : Rg} {k : Nat} : gp (l ++ [v]) k = if k < l.length then gp l k else if k = l.length then v else (0, 0) := by
  unfold gp
  by_cases h : k < l.length
  · rw [if_pos h, List.getD_eq_getElem?_getD, List.getElem?_append_left h, ← List.getD_eq_getElem?_getD]
  · rw [if_neg h, List.getD_eq_getElem?_getD, List.getElem?_append_right (by omega)]
    by_cases e : k = l.length
    · rw [if_pos e, e, Nat.sub_self] <;> rfl
    · rw [if_neg e, List.getElem?_eq_none (by show 1 ≤ _; omega)] <;> rfl
theorem Land.set {zs : List Str} {sh : List Nat} {sp : List Rg} (L : Land zs sh sp) {q : Nat} {a b : Int} (h1 : 0 ≤ a) (h2 : a ≤ b) (h3 : b ≤ 60) (h4 : b ≤ a + 2) (h5 : b ≤ 10) : Land zs sh (sp.set q (a, b)) := by
  refine ⟨⟨L.five, L.nam, by rw [List.length_set]; exact L.len, L.dist, L.men, L.shp, fun k hk => ?_⟩, fun k hk => ?_, fun k hk => ?_⟩
  · rw [gp_set]
    split
    · exact ⟨h1, h2, h3⟩
    · exact L.low k hk
  · rw [gp_set]
    split
    · exact h4
    · exact L.thin k hk
  · rw [gp_set]
    split
    · exact h5
    · exact L.lfh k hk
end
end K13
namespace K13
open PySem PySem.Spec PyProof.Rows L2 Tc Px Py PtA PtB PtC PtD
variable [Px.Fld]
local macro_rules | `(tactic| fail "x20G10") => `(tactic| first
  | ((with_reducible show G1 _ _ (Stmt.Assign [Expr.Name "_law_rows" _] (Expr.List _ _) _) _ _); (with_reducible apply set_e); (with_reducible assumption); (eq_refl); (eq_refl); rotate_left; (eq_refl))
  )
local macro_rules | `(tactic| infer_instance) => `(tactic| first
  | ((with_reducible show G1 _ _ (Stmt.Assign [Expr.Name "_law_rows" _] (Expr.List _ _) _) _ _); fail "x20G10")
  )
section
variable {P : Program} {w : World} {K : PySem.W.Frag} {mg : Str → Option Value} {base : Heap}
def expL (str : List Rg) (k : Nat) (r : List Int) : List (List Int) := (List.range ((gp str k).2 + 1 - (gp str k).1).toNat).map fun j : Nat => r ++ [(gp str k).1 + (j : Int)]
def rowsL (str : List Rg) : List Nat → List (List Int) → List (List Int)
  | [], rows => rows
  | k :: ks, rows => rowsL str ks (rows.flatMap (expL str k))
theorem rows_take {str : List Rg} : ∀ {ks : List Nat} {rows : List (List Int)} {i : Nat} (h : i < ks.length), rowsL str (ks.take (i + 1)) rows = (rowsL str (ks.take i) rows).flatMap (expL str ks[i])
  | k :: ks, rows, 0, _ => by
    show rowsL str (ks.take 0) (rows.flatMap (expL str k)) = _
    rw [List.take_zero] <;> rfl
  | k :: ks, rows, i + 1, h => rows_take (ks := ks) (rows := rows.flatMap (expL str k)) (Nat.lt_of_succ_lt_succ h)
  | [], _, _, h => absurd h (Nat.not_lt_zero _)
/-- every leaf has its number -/
theorem rows_len {str : List Rg} : ∀ {ks : List Nat} {rows : List (List Int)} {n : Nat}, (∀ r ∈ rows, r.length = n) → ∀ r ∈ rowsL str ks rows, r.length = n + ks.length
  | [], _, _, h => h
  | k :: ks, rows, n, h => by
    have := rows_len (str := str) (ks := ks) (rows := rows.flatMap (expL str k)) (n := n + 1) fun r hr => by
      obtain ⟨q, hq, hr⟩ := List.mem_flatMap.mp hr
      obtain ⟨j, _, rfl⟩ := List.mem_map.mp hr
      rw [List.length_append, h q hq] <;> rfl
    intro r hr
    rw [this r hr]
    show n + 1 + ks.length = n + (ks.length + 1)
    omega
theorem spans_land {zs : List Str} {sh : List Nat} {sp : List Rg} (L : Bse zs sh sp) : spans (landL zs sh sp) = sp := by
  unfold spans landL
  rw [List.map_map]
  have hl := L.len
  apply List.ext_getElem
  · rw [List.length_map, List.length_range, hl]
  · intro i h1 h2
    rw [List.getElem_map, List.getElem_range]
    exact (getD_at h2)
theorem land_len {zs : List Str} {sh : List Nat} {sp : List Rg} : (landL zs sh sp).length = sh.length + 1 := by
  unfold landL
  rw [List.length_map, List.length_range]
/-- areas whose numbers of leaves can all be tried -/
structure Wide (zs : List Str) (sh : List Nat) (sp : List Rg) : Prop extends Bse zs sh sp where
  few : ∀ i, (rowsL sp ((lvS sh).take i) [[]]).length ≤ 20000
theorem exp_61 {str : List Rg} {k : Nat} (h : 0 ≤ (gp str k).1 ∧ (gp str k).1 ≤ (gp str k).2 ∧ (gp str k).2 ≤ 60) (r : List Int) : (expL str k r).length ≤ 61 := by
  unfold expL
  rw [List.length_map, List.length_range]
  omega
theorem flat_61 {str : List Rg} {k : Nat} (h : 0 ≤ (gp str k).1 ∧ (gp str k).1 ≤ (gp str k).2 ∧ (gp str k).2 ≤ 60) : ∀ rows : List (List Int), (rows.flatMap (expL str k)).length ≤ 61 * rows.length
  | [] => Nat.zero_le _
  | r :: rows => by
    rw [List.flatMap_cons, List.length_append, List.length_cons]
    have := flat_61 h rows
    have := exp_61 h r
    omega
/-- the counts by trying all -/
def allL (sh : List Nat) (sp : List Rg) : List (List Int) := ((rowsL sp (lvS sh) [[]]).map (sumsL sh)).filter fun c => lieL c sp
abbrev preCounts (ds : List PyData) : Prop := ∃ (zs : List Str) (sh : List Nat) (sp : List Rg), ds = [.list (natsD sh), linesD (landL zs sh sp)] ∧ Wide zs sh sp
abbrev RCounts (ds : List PyData) (o : Out) : Prop := ∃ (zs : List Str) (sh : List Nat) (sp : List Rg) (ms : List (List Int)), ds = [.list (natsD sh), linesD (landL zs sh sp)] ∧ Wide zs sh sp ∧ o = .ok (.list (ms.map tupD)) ∧ ms.Perm (allL sh sp) ∧ ms.Pairwise fun l m => TS.code 100 l ≤ TS.code 100 m
abbrev FLie (P : Program) (w : World) (K : PySem.W.Frag) (mg : Str → Option Value) (base : Heap) : Prop := Call P w K mg base (L2.CX P w) 1 "_law_lie" ["_law_numbers", "_law_lines"] (spF 2 preLie fun ds => .ok (lieD ds))
theorem sc_lcounts : FnScope ["_law_shape", "_law_lines", "_law_rows", "_law_k", "_law_longer", "_law_row", "_law_found", "_law_number", "_law_own"] ["_law_shape", "_law_lines"] (defScope s_lcounts) := ⟨rfl, rfl, rfl, by decide +kernel, rfl, by decide +kernel, by decide +kernel⟩
theorem lie_iff {str : List Rg} {c : List Int} : lieL c str = true ↔ ∀ k, k < str.length → (gp str k).1 ≤ gi c k ∧ gi c k ≤ (gp str k).2 := by
  unfold lieL
  rw [List.all_eq_true]
  constructor
  · intro h k hk
    have := h k (List.mem_range.mpr hk)
    rw [Bool.and_eq_true] at this
    exact ⟨of_decide_eq_true this.1, of_decide_eq_true this.2⟩
  · intro h k hk
    have := h k (List.mem_range.mp hk)
    rw [Bool.and_eq_true]
    exact ⟨decide_eq_true this.1, decide_eq_true this.2⟩
theorem lie_bd {zs : List Str} {sh : List Nat} {sp : List Rg} (L : Bse zs sh sp) {c : List Int} (hl : c.length = sh.length + 1) (h : lieL c sp = true) : TS.Bd 100 c := fun m hm => by
  obtain ⟨k, hk, rfl⟩ := List.getElem_of_mem hm
  have h1 := lie_iff.mp h k (by rw [L.len]; omega)
  have h2 := L.low k (by omega)
  rw [gi_get hk]
  omega
theorem ok_lcounts (F1 : FLv P w K mg base) (F2 : FSums P w K mg base) (F3 : FLie P w K mg base) {f : Addr} {fd : FuncData} (F : Fun K "_law_counts" "_law_counts" s_lcounts f fd) (sm : ∃ o, K.lookup sysModules = some o) (B : Gls mg) :
    FnG P w K mg base (L2.CX P w) 3 f fd ["_law_shape", "_law_lines"] (spR 2 preCounts RCounts) := by
  refine fn_rel F sc_lcounts sm (by decide) _ _ fun cdv A outer s H E Bs ds hl hp c ex => ?_
  obtain ⟨zs, sh, sp, rfl, LA⟩ := hp
  have nd := sc_lcounts.nd
  refine gs_cons ?_
  repeat infer_instance
  have h5 := LA.five
  have lvle : (lvS sh).length ≤ 6 := by
    unfold lvS
    exact Nat.le_trans (List.length_filter_le _ _) (by rw [List.length_range]; omega)
  refine ⟨⟨sh, rfl, by omega⟩, to_ok ?_⟩
  rw [show lvD [.list (natsD sh)] = .list (natsD (lvS sh)) from by unfold lvD; rw [List.headD_cons, dec_S]]
  have llv : (natsD (lvS sh)).length = (lvS sh).length := List.length_map _
  have hrow : ∀ i, i ≤ (lvS sh).length → (rowsL sp ((lvS sh).take i) [[]]).length ≤ 20000 := fun i _ => LA.few i
  refine ⟨fun i Γ => ∃ (s3 s4 s5 s7 : Sl), Γ = [.d (.list (natsD sh)), .d (linesD (landL zs sh sp)), .d (.list ((rowsL sp ((lvS sh).take i) [[]]).map tupD)), s3, s4, s5, .no, s7, .no], ⟨_, _, _, _, rfl⟩, fun _ _ _ _ => trivial, ?_, ?_⟩
  · rintro i Γ hi ⟨s3, s4, s5, s7, rfl⟩
    have hi : i < (lvS sh).length := by rw [← llv]; exact hi
    have e1 : Px.nth (natsD (lvS sh)) i = PyData.int ((lvS sh)[i] : Nat) := nth_map (g := fun n : Nat => PyData.int (n : Int)) hi
    have hrT := rows_take (str := sp) (rows := [[]]) hi
    have hb0 := hrow i (by omega)
    have hb1 := hrow (i + 1) (by omega)
    have hlk := (lv_mem.mp (List.getElem_mem hi)).1
    have hlw := LA.low _ hlk
    generalize (lvS sh)[i] = k at e1 hrT hlk hlw
    have hrl0 := rows_len (str := sp) (ks := (lvS sh).take i) (rows := [[]]) (n := 0) fun r hr => by
      obtain rfl := List.mem_singleton.mp hr
      rfl
    rw [List.length_take] at hrl0
    generalize rowsL sp ((lvS sh).take i) [[]] = rows at hrT hb0 hrl0 ⊢
    rw [hrT] at hb1
    rw [e1]
    repeat infer_instance
    have ltr : (rows.map tupD).length = rows.length := List.length_map _
    have hkL : k < (landL zs sh sp).length := by rw [land_len]; exact hlk
    have hkE : (landL zs sh sp)[k] = landAt zs sh sp k := by
      have : (landL zs sh sp)[k]? = some (landAt zs sh sp k) := by
        unfold landL
        rw [List.getElem?_map, List.getElem?_range hlk] <;> rfl
      rw [List.getElem?_eq_getElem hkL] at this
      exact Option.some.inj this
    refine ⟨fun j Γ => ∃ (ad : Addr) (s5 s7 : Sl), Γ = [.d (.list (natsD sh)), .d (linesD (landL zs sh sp)), .d (.list (rows.map tupD)), .d (.int k), .own ad (((rows.take j).flatMap (expL sp k)).map tupD), s5, .no, s7, .no], ⟨_, _, _, rfl⟩, fun _ _ _ _ => trivial, ?_, ?_⟩
    · rintro j Γ hj ⟨ad, s5, s7, rfl⟩
      have hj : j < rows.length := by rw [← ltr]; exact hj
      have e2 : Px.nth (rows.map tupD) j = tupD rows[j] := nth_map hj
      have eT : (rows.take (j + 1)).flatMap (expL sp k) = (rows.take j).flatMap (expL sp k) ++ expL sp k rows[j] := by
        rw [List.take_succ, List.getElem?_eq_getElem hj, Option.toList_some, List.flatMap_append, List.flatMap_cons, List.flatMap_nil, List.append_nil]
      have hx3 := exp_61 hlw rows[j]
      have hfl : ((rows.take j).flatMap (expL sp k)).length ≤ 1220000 := by
        have := flat_61 hlw (rows.take j)
        rw [List.length_take] at this
        omega
      rw [e2]
      have hlr := hrl0 _ (List.getElem_mem hj)
      generalize rows[j] = r at eT hx3 hlr
      rw [show tupD r = .tuple (r.map .int) from rfl]
      repeat infer_instance
      ((with_reducible apply gf_lk); (eq_refl); (assumption); (eq_refl); (eq_refl); (eq_refl); (intro _; eq_refl))
      repeat infer_instance
      refine ⟨_, at_map hkL, ?_⟩
      rw [hkE]
      rw [show lineD (landAt zs sh sp k) = .tuple [.str (zg zs k), .str (if k = 0 then Str.empty else zg zs (paS sh k)), .tuple [.int (gp sp k).1, .int (gp sp k).2]] from rfl]
      repeat infer_instance
      refine ⟨_, at_map hkL, ?_⟩
      rw [hkE]
      rw [show lineD (landAt zs sh sp k) = .tuple [.str (zg zs k), .str (if k = 0 then Str.empty else zg zs (paS sh k)), .tuple [.int (gp sp k).1, .int (gp sp k).2]] from rfl]
      repeat infer_instance
      refine ⟨⟨by omega, by omega, by omega, by omega⟩, trivial, Nat.le_trans (show ((gp sp k).2 + 1 - (gp sp k).1).toNat ≤ 1000 by omega) (by decide), fun _ => true, fun t => tupD (r ++ [(gp sp k).1 + (t : Nat)]), fun t ht B' => ?_, ?_⟩
      · repeat infer_instance
        refine add_tt (Nat.le_trans (show (r.map PyData.int).length + 1 ≤ 1000 by rw [List.length_map]; omega) (by decide)) ?_
        refine ⟨?_, rfl⟩
        show PyData.tuple (r.map PyData.int ++ [.int ((gp sp k).1 + (t : Nat))]) = .tuple ((r ++ [(gp sp k).1 + (t : Nat)]).map PyData.int)
        rw [List.map_append] <;> rfl
      have eF : ((List.range ((gp sp k).2 + 1 - (gp sp k).1).toNat).filter fun _ => true).map (fun t : Nat => tupD (r ++ [(gp sp k).1 + (t : Int)])) = (expL sp k r).map tupD := by
        rw [List.filter_eq_self.mpr (fun _ _ => rfl)]
        unfold expL
        rw [List.map_map] <;> rfl
      rw [eF]
      refine ⟨_, rfl, Nat.le_trans (show (((rows.take j).flatMap (expL sp k)).map tupD).length + ((expL sp k r).map tupD).length ≤ 2000000 by rw [List.length_map, List.length_map]; omega) (by decide), ?_⟩
      show Gs _ _ _ _ _
      refine gs_nil ?_
      refine ⟨ad, .d (.tuple (r.map .int)), .no, ?_⟩
      rw [eT, List.map_append] <;> rfl
    · rintro Γ ⟨ad, s5, s7, rfl⟩
      repeat (with_reducible refine gs_nil ?_)
      show Gs _ _ _ _ _
      refine gs_cons ?_
      repeat infer_instance
      repeat (with_reducible refine gs_nil ?_)
      rw [ltr, List.take_length]
      refine ⟨.d (.int k), .d (.list ((rows.flatMap (expL sp k)).map tupD)), s5, s7, ?_⟩
      rw [hrT] <;> rfl
  · rintro Γ ⟨s3, s4, s5, s7, rfl⟩
    repeat (with_reducible refine gs_nil ?_)
    show Gs _ _ _ _ _
    refine gs_cons ?_
    rw [llv, List.take_length]
    have hrw := hrow (lvS sh).length (Nat.le_refl _)
    rw [List.take_length] at hrw
    have hrl := rows_len (str := sp) (ks := lvS sh) (rows := [[]]) (n := 0) fun r hr => by
      obtain rfl := List.mem_singleton.mp hr
      rfl
    generalize hR : rowsL sp (lvS sh) [[]] = rows at hrw hrl ⊢
    have ltr : (rows.map tupD).length = rows.length := List.length_map _
    ((with_reducible apply set_ld); (assumption); (assumption); (eq_refl); (eq_refl); (eq_refl); (eq_refl); (eq_refl); (eq_refl); (intro _; eq_refl))
    repeat infer_instance
    refine ⟨Nat.le_trans (show (rows.map tupD).length ≤ 20000 by omega) (by decide), fun _ => true, fun j => (fun r : List Int => tupD (sumsL sh r)) (rows.getD j []), fun j hj B' => ?_, ?_⟩
    · have hj : j < rows.length := by omega
      have eN : Px.nth (rows.map tupD) j = tupD rows[j] := nth_map hj
      have eG : rows.getD j [] = rows[j] := getD_at hj
      have hlj := hrl _ (List.getElem_mem hj)
      generalize rows[j] = r at eN eG hlj
      rw [eN]
      repeat infer_instance
      refine ⟨⟨sh, r, false, rfl, LA.shp, by omega, by omega⟩, to_ok ?_⟩
      refine ⟨?_, rfl⟩
      show sumsD [.list (natsD sh), .tuple (r.map .int)] = tupD (sumsL sh (rows.getD j []))
      rw [show sumsD [.list (natsD sh), .tuple (r.map .int)] = .tuple ((sumsL (decS (.list (natsD sh))) (itemsD (.tuple (r.map .int)))).map .int) from rfl, dec_S, show itemsD (.tuple (r.map .int)) = r from asIs_ints r, eG] <;> rfl
    rw [ltr, fil_all [] rows (fun r : List Int => tupD (sumsL sh r))]
    repeat infer_instance
    refine gf_sortT rfl rfl B.sorted (gq_ofF ?_) (star_cons rfl)
    ((with_reducible apply gf_lk); (eq_refl); (assumption); (eq_refl); (eq_refl); (eq_refl); (intro _; eq_refl))
    repeat infer_instance
    have lmr : (rows.map fun r => tupD (sumsL sh r)).length = rows.length := List.length_map _
    refine ⟨Nat.le_trans (show (rows.map fun r => tupD (sumsL sh r)).length ≤ 20000 by omega) (by decide), fun j => lieL (sumsL sh (rows.getD j [])) sp, fun j => tupD (sumsL sh (rows.getD j [])), fun j hj B' => ?_, ?_⟩
    · have hj : j < rows.length := by omega
      have eN : Px.nth (rows.map fun r => tupD (sumsL sh r)) j = tupD (sumsL sh rows[j]) := nth_map hj
      have eG : rows.getD j [] = rows[j] := getD_at hj
      have hsl := sums_len (sh := sh) (nums := rows[j])
      generalize rows[j] = r at eN eG hsl
      rw [eN]
      have eP : (fun j => lieL (sumsL sh (rows.getD j [])) sp) j = lieL (sumsL sh r) sp := by
        show lieL (sumsL sh (rows.getD j [])) sp = _
        rw [eG]
      repeat infer_instance
      refine ⟨⟨sumsL sh r, landL zs sh sp, rfl, by rw [hsl, land_len], by rw [land_len]; omega⟩, to_ok ?_⟩
      rw [show lieD [tupD (sumsL sh r), linesD (landL zs sh sp)] = .bool (lieL (((sumsL sh r).map PyData.int).map asI) (spans (decA1 (linesD (landL zs sh sp))))) from rfl, asIs_ints, dec_A1, spans_land LA.toBse]
      refine ⟨_, rfl, eP.symm, ?_⟩
      cases hb : lieL (sumsL sh r) sp
      · exact rfl
      · repeat infer_instance
        exact ⟨by show tupD (sumsL sh r) = tupD (sumsL sh (rows.getD j [])); rw [eG], rfl⟩
    rw [lmr, fil_some [] rows (fun r : List Int => lieL (sumsL sh r) sp) (fun r : List Int => tupD (sumsL sh r))]
    have eA : (rows.filter fun r : List Int => lieL (sumsL sh r) sp).map (fun r : List Int => tupD (sumsL sh r)) = ((rows.map (sumsL sh)).filter fun c => lieL c sp).map tupD := by
      rw [List.filter_map, List.map_map] <;> rfl
    refine ⟨(rows.map (sumsL sh)).filter fun c => lieL c sp, sh.length + 1, 100, eA, by omega, fun l hl => ?_, fun ms h1 h2 => ⟨zs, sh, sp, ms, rfl, LA, rfl, ?_, h2⟩⟩
    · obtain ⟨h1, h2⟩ := List.mem_filter.mp hl
      obtain ⟨r, _, rfl⟩ := List.mem_map.mp h1
      refine ⟨sums_len, lie_bd LA.toBse sums_len h2⟩
    · unfold allL
      rw [hR]
      exact h1
end
end K13
/-! The first and the last count are what _end_count finds. -/
/-! The sorted list of all counts begins with the first and ends with the last. -/
namespace K13
open PySem PySem.Spec PyProof.Rows L2 Tc Px Py PtA PtB PtC PtD
variable [Px.Fld]
theorem count_congr {n : Nat} {pa : Nat → Nat} {ps : Nat → List Nat} {str : PtA.St} {c d : Nat → Int} (T : Tree n pa ps) (C : Count n ps str c) (h : ∀ k, k < n → c k = d k) : Count n ps str d := ⟨fun k hk => by rw [← h k hk]; exact C.lie k hk, fun k hk e => by
  rw [← h k hk, C.sum k hk e]
  exact sm_congr fun p hp => h p (PtA.part_gt T hp).2⟩
theorem rows_mem {sp : List Rg} {f : Nat → Int} : ∀ {ks : List Nat} {rows : List (List Int)} {r : List Int}, (∀ k ∈ ks, (gp sp k).1 ≤ f k ∧ f k ≤ (gp sp k).2) → r ∈ rows → r ++ ks.map f ∈ rowsL sp ks rows
  | [], rows, r, _, hr => by
    show r ++ [] ∈ rows
    rw [List.append_nil]
    exact hr
  | k :: ks, rows, r, h, hr => by
    have h1 := h k List.mem_cons_self
    have h2 : r ++ [f k] ∈ rows.flatMap (expL sp k) := List.mem_flatMap.mpr ⟨r, hr, List.mem_map.mpr ⟨(f k - (gp sp k).1).toNat, List.mem_range.mpr (by omega), by rw [show (gp sp k).1 + (((f k - (gp sp k).1).toNat : Nat) : Int) = f k by omega]⟩⟩
    have := rows_mem (ks := ks) (fun q hq => h q (List.mem_cons_of_mem _ hq)) h2
    rw [List.append_assoc] at this
    exact this
theorem all_iff {zs : List Str} {sh : List Nat} {sp : List Rg} (L : Bse zs sh sp) {c : List Int} : c ∈ allL sh sp ↔ c.length = sh.length + 1 ∧ Count (sh.length + 1) (pt (pssS sh)) (gp sp) (gi c) := by
  unfold allL
  rw [List.mem_filter]
  constructor
  · rintro ⟨h1, h2⟩
    obtain ⟨r, hr, rfl⟩ := List.mem_map.mp h1
    have hl := rows_len (str := sp) (ks := lvS sh) (rows := [[]]) (n := 0) (fun r hr => by
      obtain rfl := List.mem_singleton.mp hr
      rfl) r hr
    rw [Nat.zero_add] at hl
    refine ⟨sums_len, fun k hk => lie_iff.mp h2 k (by rw [L.len]; exact hk), fun k hk e => (sums_inner L.shp hl).1 k hk e⟩
  · rintro ⟨hl, C⟩
    have e := sums_of L.shp (c := gi c) C.sum
    rw [lst_gi hl] at e
    refine ⟨List.mem_map.mpr ⟨_, ?_, e⟩, lie_iff.mpr fun k hk => C.lie k (by rw [← L.len]; exact hk)⟩
    have := rows_mem (sp := sp) (f := gi c) (ks := lvS sh) (rows := [[]]) (r := []) (fun k hk => C.lie k (lv_mem.mp hk).1) (List.mem_singleton.mpr rfl)
    exact this
end K13
/-! The drawn areas' lines are fine. -/
namespace K13
open PySem PySem.Spec PyProof.Rows L2 Tc Px Py PtA PtB PtC PtD
variable [Px.Fld]
theorem land_at {zs : List Str} {sh : List Nat} {sp : List Rg} {k : Nat} (h : k < (landL zs sh sp).length) : (landL zs sh sp)[k] = landAt zs sh sp k := by
  have hk : k < sh.length + 1 := by rw [land_len] at h; exact h
  have : (landL zs sh sp)[k]? = some (landAt zs sh sp k) := by
    unfold landL
    rw [List.getElem?_map, List.getElem?_range hk] <;> rfl
  rw [List.getElem?_eq_getElem h] at this
  exact Option.some.inj this
theorem nd_inj {l : List Str} (nd : l.Nodup) {i j : Nat} {hi : i < l.length} {hj : j < l.length} (e : l[i] = l[j]) : i = j := by
  rcases Nat.lt_trichotomy i j with h | h | h
  · exact absurd e (List.pairwise_iff_getElem.mp nd i j hi hj h)
  · exact h
  · exact absurd e.symm (List.pairwise_iff_getElem.mp nd j i hj hi h)
theorem menu_ok : ∀ z ∈ menuL, nameB z = true := by decide +kernel
theorem zg_get {zs : List Str} {k : Nat} (h : k < zs.length) : zg zs k = zs[k] := getD_at h
theorem names_land {zs : List Str} {sh : List Nat} {sp : List Rg} (hn : zs.length = sh.length + 1) : namesOf (landL zs sh sp) = zs := by
  unfold namesOf
  apply List.ext_getElem
  · rw [List.length_map, land_len, hn]
  · intro i h1 h2
    rw [List.getElem_map, land_at]
    exact zg_get h2
theorem ix_nd {zs : List Str} (nd : zs.Nodup) {k : Nat} (h : k < zs.length) : nmIx zs (zg zs k) = k := by
  rw [zg_get h]
  have hm : zs[k] ∈ zs := List.getElem_mem h
  obtain ⟨h1, h2, h3⟩ := nmIx_at hm
  rw [List.getElem?_eq_getElem h2] at h1
  exact nd_inj nd (Option.some.inj h1)
theorem sh_land {zs : List Str} {sh : List Nat} {sp : List Rg} (hn : zs.length = sh.length + 1) (nd : zs.Nodup) (hs : ShOk sh) : shOf (landL zs sh sp) = sh := by
  rw [sh_eq, names_land hn]
  have e : (landL zs sh sp).tail = (List.range sh.length).map fun k => landAt zs sh sp (k + 1) := by
    unfold landL
    rw [List.range_succ_eq_map, List.map_cons, List.tail_cons, List.map_map] <;> rfl
  rw [e, List.map_map]
  apply List.ext_getElem
  · rw [List.length_map, List.length_range]
  · intro i h1 h2
    rw [List.getElem_map, List.getElem_range]
    show nmIx zs (if i + 1 = 0 then Str.empty else zg zs (paS sh (i + 1))) = sh[i]
    rw [if_neg (Nat.succ_ne_zero i)]
    have hp := pa_lt hs (k := i + 1) (Nat.succ_pos _) (by omega)
    rw [ix_nd nd (by omega)]
    exact getD_at h2
theorem lines_ok {zs : List Str} {sh : List Nat} {sp : List Rg} (five : sh.length ≤ 5) (hn : zs.length = sh.length + 1) (nd : zs.Nodup) (men : ∀ z ∈ zs, z ∈ menuL) (hs : ShOk sh) (ok : ∀ k, k < sh.length + 1 → okS (gp sp k)) : LinesOk (landL zs sh sp) := by
  refine ⟨by rw [land_len]; omega, by rw [land_len]; omega, fun k hk => ?_⟩
  have hk2 : k < sh.length + 1 := by rw [land_len] at hk; exact hk
  have hz : k < zs.length := by omega
  have en : namesOf ((landL zs sh sp).take k) = zs.take k := by
    have := names_land (sp := sp) hn
    unfold namesOf at this ⊢
    rw [List.map_take, this]
  rw [en, land_at]
  unfold landAt
  refine ⟨menu_ok _ (men _ (by rw [zg_get hz]; exact List.getElem_mem hz)), fun h => ?_, ok k hk2, fun h => ?_, fun h => ?_⟩
  · have h : zg zs k ∈ zs.take k := h
    obtain ⟨i, hi, e⟩ := List.getElem_of_mem h
    rw [List.length_take] at hi
    rw [List.getElem_take, zg_get hz] at e
    have := nd_inj nd e
    omega
  · have : k = 0 := by
      have h2 := congrArg List.length h
      rw [List.length_take, List.length_nil] at h2
      omega
    show (if k = 0 then Str.empty else _) = _
    rw [if_pos this] <;> rfl
  · have k0 : k ≠ 0 := fun z => h (by rw [z, List.take_zero])
    show (if k = 0 then Str.empty else zg zs (paS sh k)) ∈ _
    rw [if_neg k0]
    have hp := pa_lt hs (k := k) (by omega) hk2
    rw [zg_get (by omega)]
    exact List.mem_take_iff_getElem.mpr ⟨paS sh k, by omega, rfl⟩
theorem Bse.lines {zs : List Str} {sh : List Nat} {sp : List Rg} (L : Bse zs sh sp) : LinesOk (landL zs sh sp) := lines_ok L.five L.nam L.dist.nd L.men L.shp fun k hk => by
  obtain ⟨h1, h2, h3⟩ := L.low k hk
  exact ⟨h1, h2, by omega⟩
end K13
namespace K13
open PySem PySem.Spec PyProof.Rows L2 Tc Px Py PtA PtB PtC PtD
variable [Px.Fld]
theorem rg_memI {a b k : Int} : k ∈ rangeI a b ↔ a ≤ k ∧ k < b := by
  unfold rangeI
  rw [List.mem_map]
  constructor
  · rintro ⟨i, hi, rfl⟩
    rw [List.mem_range] at hi
    omega
  · rintro ⟨h1, h2⟩
    exact ⟨(k - a).toNat, List.mem_range.mpr (by omega), by omega⟩
theorem rg_pairI (a b : Int) : (rangeI a b).Pairwise (· < ·) := by
  unfold rangeI
  refine List.pairwise_map.mpr (List.Pairwise.imp (fun h => ?_) List.pairwise_lt_range)
  omega
/-- the ranges of the land -/
def landR (sh : List Nat) (sp : List Rg) : Option (List Rg) := treeR (pssS sh) sp
theorem land_tree {zs : List Str} {sh : List Nat} {sp : List Rg} (L : Bse zs sh sp) :
    match landR sh sp with
    | none => ∀ c, ¬ Count (sh.length + 1) (pt (pssS sh)) (gp sp) c
    | some r => r.length = sh.length + 1 ∧ ∀ k, k < sh.length + 1 → (gp r k).1 ≤ (gp r k).2 ∧ ∀ x, ((gp r k).1 ≤ x ∧ x ≤ (gp r k).2) ↔ ∃ c, Count (sh.length + 1) (pt (pssS sh)) (gp sp) c ∧ c k = x :=
  tree_exact (tree_of L.shp) (pss_len sh) L.len fun k hk => (L.low k hk).2.1
/-- the numbers of one line in all counts -/
def colL (ms : List (List Int)) (k : Nat) : List Int := ms.map fun c => gi c k
theorem col_mem {zs : List Str} {sh : List Nat} {sp : List Rg} (L : Bse zs sh sp) {ms : List (List Int)} (hp : ms.Perm (allL sh sp)) {k : Nat} (hk : k < sh.length + 1) (x : Int) : x ∈ colL ms k ↔ ∃ c, Count (sh.length + 1) (pt (pssS sh)) (gp sp) c ∧ c k = x := by
  unfold colL
  rw [List.mem_map]
  constructor
  · rintro ⟨c, hc, rfl⟩
    exact ⟨gi c, ((all_iff L).mp (hp.mem_iff.mp hc)).2, rfl⟩
  · rintro ⟨c, C, rfl⟩
    refine ⟨lst (sh.length + 1) c, hp.mem_iff.mpr ((all_iff L).mpr ⟨lst_len, count_congr (tree_of L.shp) C fun j hj => (gi_lst hj).symm⟩), gi_lst hk⟩
theorem col_bd {zs : List Str} {sh : List Nat} {sp : List Rg} (L : Bse zs sh sp) {ms : List (List Int)} (hp : ms.Perm (allL sh sp)) {k : Nat} (hk : k < sh.length + 1) : ∀ x ∈ colL ms k, 0 ≤ x ∧ x ≤ 60 := fun x hx => by
  obtain ⟨c, C, rfl⟩ := (col_mem L hp hk x).mp hx
  have h1 := C.lie k hk
  have h2 := L.low k hk
  omega
theorem col_none {zs : List Str} {sh : List Nat} {sp : List Rg} (L : Bse zs sh sp) {ms : List (List Int)} (hp : ms.Perm (allL sh sp)) (h : landR sh sp = none) : ms = [] := by
  have q := land_tree L
  rw [h] at q
  cases ms with
  | nil => rfl
  | cons c ms => exact absurd ((all_iff L).mp (hp.mem_iff.mp List.mem_cons_self)).2 (q _)
theorem col_some {zs : List Str} {sh : List Nat} {sp : List Rg} (L : Bse zs sh sp) {ms : List (List Int)} (hp : ms.Perm (allL sh sp)) {r : List Rg} (h : landR sh sp = some r) {k : Nat} (hk : k < sh.length + 1) : (gp r k).1 ≤ (gp r k).2 ∧ 0 ≤ (gp r k).1 ∧ (gp r k).2 ≤ 60 ∧ asc (colL ms k) = rangeI (gp r k).1 ((gp r k).2 + 1) := by
  have q := land_tree L
  rw [h] at q
  obtain ⟨ne, ex⟩ := q.2 k hk
  have b1 := col_bd L hp hk _ ((col_mem L hp hk _).mpr ((ex (gp r k).1).mp ⟨Int.le_refl _, ne⟩))
  have b2 := col_bd L hp hk _ ((col_mem L hp hk _).mpr ((ex (gp r k).2).mp ⟨ne, Int.le_refl _⟩))
  refine ⟨ne, b1.1, b2.2, asc_uniq (asc_pair _) (rg_pairI _ _) fun x => ?_⟩
  rw [asc_mem (col_bd L hp hk), rg_memI, col_mem L hp hk, ← ex x]
  omega
theorem some_ne {zs : List Str} {sh : List Nat} {sp : List Rg} (L : Bse zs sh sp) {ms : List (List Int)} (hp : ms.Perm (allL sh sp)) {r : List Rg} (h : landR sh sp = some r) : ms ≠ [] := fun e => by
  have q := land_tree L
  rw [h] at q
  obtain ⟨ne, ex⟩ := q.2 0 (Nat.succ_pos _)
  have := (col_mem L hp (Nat.succ_pos _) _).mpr ((ex (gp r 0).1).mp ⟨Int.le_refl _, ne⟩)
  rw [e] at this
  cases this
theorem name_in {zs : List Str} {sh : List Nat} {sp : List Rg} (L : Bse zs sh sp) {q : Nat} (hq : q < sh.length + 1) : zg zs q ∈ namesOf (landL zs sh sp) := by
  rw [names_land L.nam, zg_get (by rw [L.nam]; exact hq)]
  exact List.getElem_mem _
theorem gn_span {x : Rg} (h : 0 ≤ x.1 ∧ x.1 ≤ x.2 ∧ x.2 ≤ 60) : GN 50 1 (strD x) := (gn_tup (n := 13) (k := 0) (ds := [.int x.1, .int x.2]) fun d hd => by
  simp only [List.mem_cons, List.not_mem_nil, or_false] at hd
  rcases hd with rfl | rfl <;> exact gn_int (by omega) (by omega)).mono (show 2 * (13 + 2) + 3 ≤ 50 by decide) (by decide)
theorem land_rg {zs : List Str} {sh : List Nat} {sp : List Rg} (L : Bse zs sh sp) {ms : List (List Int)} (hp : ms.Perm (allL sh sp)) {r : List Rg} (h : landR sh sp = some r) : r.length = sh.length + 1 ∧ ∀ k, k < sh.length + 1 → 0 ≤ (gp r k).1 ∧ (gp r k).1 ≤ (gp r k).2 ∧ (gp r k).2 ≤ 60 := by
  have q := land_tree L
  rw [h] at q
  exact ⟨q.1, fun k hk => by
    obtain ⟨a, b, c, _⟩ := col_some L hp h hk
    exact ⟨b, a, c⟩⟩
theorem good_two {d : PyData} (h : GN 1300 4 d) : Good (.list [d, d]) := ((gn_list (n := 1300) (k := 4) (ds := [d, d]) fun x hx => by
  simp only [List.mem_cons, List.not_mem_nil, or_false, or_self] at hx
  rw [hx]
  exact h).mono (m := 3000) (l := 5) (show 2 * (1300 + 2) + 2 ≤ 3000 by decide) (by decide)).good (by decide) (by decide)
end K13
namespace K13
open PySem PySem.Spec PyProof.Rows L2 Tc Px Py PtA PtB PtC PtD PtE
variable [Px.Fld]
/-! ### lists of counts -/
/-! ### a stretch that is as good as none -/
theorem Bse.put {zs : List Str} {sh : List Nat} {sp : List Rg} (L : Bse zs sh sp) {k : Nat} {a b : Int} (h1 : 0 ≤ a) (h2 : a ≤ b) (h3 : b ≤ 60) : Bse zs sh (sp.set k (a, b)) := ⟨L.five, L.nam, by rw [List.length_set]; exact L.len, L.dist, L.men, L.shp, fun j hj => by
  rw [gp_set]
  split
  · exact ⟨h1, h2, h3⟩
  · exact L.low j hj⟩
/-! ### the tight areas -/
end K13
namespace K13
open PySem PySem.Spec PyProof.Rows L2 Tc Px Py PtA PtB PtC PtD PtE
variable [Px.Fld]
variable {P : Program} {w : World} {K : PySem.W.Frag} {mg : Str → Option Value} {base : Heap}
theorem sc_is_number : FnScope ["value"] ["value"] (defScope s_is_number) := ⟨rfl, rfl, rfl, by decide +kernel, rfl, by decide +kernel, by decide +kernel⟩
theorem ok_is_number (F1 : Call P w K mg base (L2.CX P w) 1 "is_integer" ["value"] (spF 1 ni1 fun ds => .ok (.bool (intB (ds.headD .none))))) {f : Addr} {fd : FuncData} (F : Fun K "is_number" "is_number" s_is_number f fd) (sm : ∃ o, K.lookup sysModules = some o) (B : Gls mg) :
    FnG P w K mg base (L2.CX P w) 2 f fd ["value"] (spF 1 ni1 fun ds => .ok (.bool (natB (ds.headD .none)))) := by
  refine fn_data F sc_is_number sm (by decide) _ _ fun cdv A outer s H E Bs ds hl hp c ex => ?_
  match ds, hl with
  | [d], _ =>
  have hp : notI d = true := hp
  refine gs_cons ?_
  repeat infer_instance
  rw [List.headD_cons]
  cases d <;> (generalize hb : intB _ = t; cases t <;> first | cases hb | skip)
  all_goals repeat infer_instance
  all_goals exact rfl
theorem sc_are_numbers : FnScope ["value", "many", "number"] ["value", "many"] (defScope s_are_numbers) := ⟨rfl, rfl, rfl, by decide +kernel, rfl, by decide +kernel, by decide +kernel⟩
theorem ok_are_numbers (F1 : Call P w K mg base (L2.CX P w) 2 "is_number" ["value"] (spF 1 ni1 fun ds => .ok (.bool (natB (ds.headD .none))))) {f : Addr} {fd : FuncData} (F : Fun K "are_numbers" "are_numbers" s_are_numbers f fd) (sm : ∃ o, K.lookup sysModules = some o) (B : Gls mg) :
    FnG P w K mg base (L2.CX P w) 3 f fd ["value", "many"] (spF 2 (fun ds => ∃ d m, ds = [d, .int m] ∧ pl1D d ∧ m ≤ 1000) fun ds => .ok (numsD ds)) := by
  refine fn_data F sc_are_numbers sm (by decide) _ _ fun cdv A outer s H E Bs ds hl hp c ex => ?_
  obtain ⟨d, m, rfl, ⟨hp, hq⟩, hm⟩ := hp
  have nd := sc_are_numbers.nd
  refine gs_cons ?_
  repeat infer_instance
  rw [isD_tuple]
  cases d <;> (dsimp only; repeat infer_instance)
  all_goals try exact rfl
  all_goals (generalize hb : PyData.eqv _ _ = t; cases t)
  all_goals repeat infer_instance
  · rw [eqv_int] at hb
    show Out.ok (.bool (decide _ && _)) = _
    rw [hb] <;> rfl
  all_goals (rw [eqv_int] at hb; have hb := of_decide_eq_true hb)
  all_goals ((with_reducible apply gf_lk); (eq_refl); (assumption); (eq_refl); (eq_refl); (eq_refl); (intro _; eq_refl))
  all_goals repeat infer_instance
  rename_i xs _
  refine ⟨Nat.le_trans (show xs.length ≤ 1000 by omega) (by decide), fun _ => true, fun i => .bool (natB (nth xs i)), fun i hi B' => ?_, ?_⟩
  · repeat infer_instance
    refine ⟨hq _ rfl _ (nth_mem hi), ?_⟩
    repeat infer_instance
    all_goals rfl
  · repeat infer_instance
    refine all_look ?_
    show Out.ok (.bool (decide _ && _)) = _
    rw [decide_eq_true hb] <;> rfl
local macro_rules | `(tactic| infer_instance) => `(tactic| first
  | (with_reducible refine gs_nil ?_)
  )
theorem sc_lies_in : FnScope ["number", "stretch"] ["number", "stretch"] (defScope s_lies_in) := ⟨rfl, rfl, rfl, by decide +kernel, rfl, by decide +kernel, by decide +kernel⟩
theorem ok_lies_in {f : Addr} {fd : FuncData} (F : Fun K "lies_in" "lies_in" s_lies_in f fd) (sm : ∃ o, K.lookup sysModules = some o) (B : Gls mg) :
    FnG P w K mg base (L2.CX P w) 1 f fd ["number", "stretch"] (spF 2 (fun ds => ∃ n lo hi : Int, ds = [.int n, .tuple [.int lo, .int hi]]) fun ds => .ok (.bool (liesB ds))) := by
  refine fn_data F sc_lies_in sm (by decide) _ _ fun cdv A outer s H E Bs ds hl hp c ex => ?_
  obtain ⟨n, lo, hi, rfl⟩ := hp
  have nd := sc_lies_in.nd
  refine gs_cons ?_
  repeat infer_instance
  show if decide (lo ≤ n) = true then _ else _
  generalize h1 : decide (lo ≤ n) = t
  cases t
  · repeat infer_instance
    show Out.ok (.bool (decide (lo ≤ n) && _)) = _
    rw [h1] <;> rfl
  repeat infer_instance
  show Out.ok (.bool (decide (lo ≤ n) && _)) = _
  rw [h1] <;> rfl
end K13
namespace K13
open PySem PySem.Spec PyProof.Rows L2 Tc Px Py PtA PtB PtC PtD PtE
variable [Px.Fld]
def Stop (p : Prop) : Prop := p
theorem stop_in {p : Prop} (h : Stop p) : p := h
/-- <= of two texts -/
theorem gt_leS {B : Bas} {X : Cx} {Γ : List Sl} {pos : Pos} {a b : Expr} {φ : Bool → List Sl → Prop} (hm : behindInMarks .LtE b = false) (h : GE B X a Γ fun d1 Γ1 => GB B X b Γ1 fun d2 Γ2 => ∃ i j : Str, d1 = .str i ∧ d2 = .str j ∧ φ (!decide (j.cps.toList < i.cps.toList)) Γ2) : GT B X (.Compare a [.LtE] [b] pos) Γ φ :=
  gt_cmp op_le_str (fun d1 d2 k => ∃ i j : Str, d1 = .str i ∧ d2 = .str j ∧ k (!decide (j.cps.toList < i.cps.toList))) (fun d1 d2 k h => by
    obtain ⟨i, j, rfl, rfl, hk⟩ := h
    intro H v1 v2 Q q1 q2 g
    cases q1
    cases q2
    exact ⟨i, j, rfl, rfl, g _ hk⟩) hm h
local macro_rules | `(tactic| infer_instance) => `(tactic| first
  | ((with_reducible show GE _ _ (Expr.Call (Expr.Name "is_right" _) _ _ _) _ _); (with_reducible refine stop_in ?_))
  | ((with_reducible show GT _ _ (Expr.Compare (Expr.Name "value" _) [CmpOp.LtE] [_] _) _ _); (refine gt_leS (by with_unfolding_all rfl) ?_))
  )
section
variable {P : Program} {w : World} {K : PySem.W.Frag} {mg : Str → Option Value} {base : Heap}
abbrev Ups (hs : List Str) : Prop := hs.Pairwise fun a b => a.cps.toList < b.cps.toList
def preWrong (P : Program) (w : World) (K : PySem.W.Frag) (mg : Str → Option Value) (base : Heap) (F Hs : Hp) (vs : List V) (out : Out) : Prop :=
  ∃ (v : V) (a : Addr) (hs : List Str), vs = [v, .ref a] ∧ Dv Hs v (.tuple (hs.map .str)) ∧ Ac1S P w K mg base 4 F Hs a (fun d => ∃ z ∈ hs, d = .str z) (fun _ => .ok (.bool true)) ∧ Ups hs ∧ hs.length ≤ 10 ∧ out = .ok .none
theorem sc_wrong_at : FnScope ["values", "is_right", "at", "value"] ["values", "is_right"] (defScope s_wrong_at) := ⟨rfl, rfl, rfl, by decide +kernel, rfl, by decide +kernel, by decide +kernel⟩
theorem ok_wrong_at {f : Addr} {fd : FuncData} (F : Fun K "wrong_at" "wrong_at" s_wrong_at f fd) (sm : ∃ o, K.lookup sysModules = some o) (B : Gls mg) :
    FnG P w K mg base (L2.CX P w) 5 f fd ["values", "is_right"] (spS 2 (preWrong P w K mg base)) := by
  refine fn_vals F sc_wrong_at sm (by decide) _ fun cdv A outer s H E Bs vs out hl hp c ex => ?_
  have nd := sc_wrong_at.nd
  obtain ⟨v, a, hs, rfl, dv, AC, up, hten, rfl⟩ := hp
  refine gs_vd 0 rfl dv ?_
  show Gs _ _ _ [.d (.tuple (hs.map .str)), .v (.ref a), .no, .no] _
  refine gs_cons ?_
  repeat infer_instance
  refine ⟨fun i Γ => ∃ s2 s3 : Sl, Γ = [.d (.tuple (hs.map .str)), .v (.ref a), s2, s3], ⟨_, _, rfl⟩, fun _ _ _ _ => trivial, ?_, ?_⟩
  · rintro i Γ hi ⟨s2, s3, rfl⟩
    have lh : (hs.map PyData.str).length = hs.length := List.length_map _
    have hi : i < hs.length := by rw [← lh]; exact hi
    have en : Px.nth (hs.map PyData.str) i = .str hs[i] := nth_map hi
    show GG _ _ _ (.tuple [.int (i : Nat), Px.nth (hs.map PyData.str) i]) _ _
    rw [en]
    repeat infer_instance
    unfold Stop
    refine act1_e AC c.toCxt (by decide) ex rfl rfl rfl ?_ rfl rfl (star_cons rfl) rfl
    repeat infer_instance
    refine ⟨⟨_, List.getElem_mem hi, rfl⟩, to_ok ?_⟩
    repeat infer_instance
    by_cases i0 : 0 < i
    · rw [decide_eq_true (show (i : Int) > 0 by omega)]
      repeat infer_instance
      rw [show (i : Int) - 1 = ((i - 1 : Nat) : Int) by omega]
      refine ⟨_, at_map (g := PyData.str) (k := i - 1) (by omega), ?_⟩
      refine ⟨_, _, rfl, rfl, ?_⟩
      have lt := List.pairwise_iff_getElem.mp up (i - 1) i (by omega) hi (by omega)
      rw [decide_eq_true lt]
      rw [if_neg (by decide)]
      repeat infer_instance
      repeat (with_reducible refine gs_nil ?_)
      exact ⟨_, _, rfl⟩
    · rw [decide_eq_false (show ¬ (i : Int) > 0 by omega)]
      repeat infer_instance
      repeat (with_reducible refine gs_nil ?_)
      exact ⟨_, _, rfl⟩
  · rintro Γ ⟨s2, s3, rfl⟩
    show Gs _ _ _ _ _
    refine gs_cons ?_
    repeat infer_instance
    exact rfl
end
end K13
namespace K13
open PySem PySem.Spec PyProof.Rows L2 Tc Px Py PtA PtB PtC
variable [Px.Fld]
local macro_rules | `(tactic| fail "x28GE0") => `(tactic| first
  | ((with_reducible show GE _ _ (Expr.Call (Expr.Attribute _ "index" _) [_] _ _) _ _); (with_reducible apply ge_tindex); rotate_left; (eq_refl); (eq_refl); (eq_refl); (exact star_cons rfl))
  )
local macro_rules | `(tactic| fail "x28GF1") => `(tactic| first
  | ((with_reducible show GF _ _ (Expr.Call (Expr.Name "stretches_of" _) (_ :: _) [] _) _ _); (with_reducible apply gf_callN); (case F => with_reducible assumption); (exact ⟨rfl, rfl, rfl, rfl, rfl⟩); (first | with_reducible assumption | exact Bod.toCxt (by with_reducible assumption)); (eq_refl); (eq_refl); rotate_left; (decide); (exact star_cons rfl); (eq_refl))
  )
local macro_rules | `(tactic| infer_instance) => `(tactic| first
  | ((with_reducible show GE _ _ (Expr.Call (Expr.Attribute _ "index" _) [_] _ _) _ _); fail "x28GE0")
  | ((with_reducible show GE _ _ (Expr.Compare _ [CmpOp.In] [Expr.Attribute _ _ _] _) _ _); (with_reducible apply ge_in false); (eq_refl))
  | ((with_reducible show GF _ _ (Expr.Call (Expr.Name "stretches_of" _) (_ :: _) [] _) _ _); fail "x28GF1")
  | ((with_reducible show GQ _ _ false (Expr.Attribute _ "names" _) _ _); (with_reducible refine gq_of (ge_uncl ?_)))
  )
section
variable {P : Program} {w : World} {K : PySem.W.Frag} {mg : Str → Option Value} {base : Heap}
theorem sc_is_area : FnScope ["areas", "value"] ["areas", "value"] (defScope s_is_area) := ⟨rfl, rfl, rfl, by decide +kernel, rfl, by decide +kernel, by decide +kernel⟩
theorem sc_need_area : FnScope ["areas", "name"] ["areas", "name"] (defScope s_need_area) := ⟨rfl, rfl, rfl, by decide +kernel, rfl, by decide +kernel, by decide +kernel⟩
theorem sc_index_of_area : FnScope ["areas", "name"] ["areas", "name"] (defScope s_index_of_area) := ⟨rfl, rfl, rfl, by decide +kernel, rfl, by decide +kernel, by decide +kernel⟩
/-- whether it is the name of an area -/
def isNm (L : List Ln) : PyData → Bool
  | .str z => decide (z ∈ namesOf L)
  | _ => false
abbrev preIA (C : Addr) (ds : List PyData) : Prop := ∃ (L : List Ln) (d : PyData), ds = [inst C (arF L), d] ∧ LinesOk L ∧ notI d = true
def iaD (ds : List PyData) : PyData := match ds with
  | [a, d] => .bool (isNm (decA [a]) d)
  | _ => .none
theorem ia_D (C : Addr) (L : List Ln) (d : PyData) : iaD [inst C (arF L), d] = .bool (isNm L d) := by
  show PyData.bool (isNm (decA [inst C (arF L)]) d) = _
  rw [dec_A]
theorem ok_is_area {C : Addr} (DN : PropD P w K mg base C "names" "_names" 1) {f : Addr} {fd : FuncData} (F : Fun K "is_area" "is_area" s_is_area f fd) (sm : ∃ o, K.lookup sysModules = some o) (B : Gls mg) :
    FnG P w K mg base (L2.CX P w) 3 f fd ["areas", "value"] (spF 2 (preIA C) fun ds => .ok (iaD ds)) := by
  refine fn_data F sc_is_area sm (by decide) _ _ fun cdv A outer s H E Bs ds hl hp c ex => ?_
  obtain ⟨L, d, rfl, hL, hd⟩ := hp
  rw [ia_D]
  have nd := sc_is_area.nd
  refine gs_cons ?_
  repeat infer_instance
  cases d with
  | str z =>
    rw [show isD "str" (PyData.str z) = true from rfl]
    repeat infer_instance
    refine ⟨_, _, rfl, rfl, _, rfl, _, rfl, rfl, strs_plain _, ?_⟩
    show Out.ok (PyData.bool (decide (z ∈ namesOf L))) = .ok (.bool ((strL (namesOf L)).any fun y => PyData.eqv y (.str z)))
    rw [any_strs, show strIn (.str z) (namesOf L) = decide (z ∈ namesOf L) from by rw [Bool.eq_iff_iff]; simp [strIn]]
  | _ =>
    repeat infer_instance
    exact rfl
theorem ok_need_area {C : Addr} (F1 : Call P w K mg base (L2.CX P w) 3 "is_area" ["areas", "value"] (spF 2 (preIA C) fun ds => .ok (iaD ds))) {f : Addr} {fd : FuncData} (F : Fun K "need_area" "need_area" s_need_area f fd) (sm : ∃ o, K.lookup sysModules = some o) (B : Gls mg) :
    FnG P w K mg base (L2.CX P w) 4 f fd ["areas", "name"] (spF 2 (fun ds => ∃ (L : List Ln) (z : Str), ds = [inst C (arF L), .str z] ∧ LinesOk L ∧ z ∈ namesOf L) fun _ => .ok .none) := by
  refine fn_data F sc_need_area sm (by decide) _ _ fun cdv A outer s H E Bs ds hl hp c ex => ?_
  obtain ⟨L, z, rfl, hL, hz⟩ := hp
  have nd := sc_need_area.nd
  refine gs_cons ?_
  repeat infer_instance
  refine ⟨⟨L, _, rfl, hL, rfl⟩, to_ok ?_⟩
  rw [ia_D, show isNm L (.str z) = true from decide_eq_true hz]
  repeat infer_instance
  repeat (with_reducible refine gs_nil ?_)
  exact rfl
abbrev preIx (C : Addr) (ds : List PyData) : Prop := ∃ (L : List Ln) (z : Str), ds = [inst C (arF L), .str z] ∧ LinesOk L ∧ z ∈ namesOf L
def ixD (ds : List PyData) : PyData := match ds with
  | [a, .str z] => .int (nmIx (namesOf (decA [a])) z : Nat)
  | _ => .none
theorem ix_D (C : Addr) (L : List Ln) (z : Str) : ixD [inst C (arF L), .str z] = .int (nmIx (namesOf L) z : Nat) := by
  show PyData.int (nmIx (namesOf (decA [inst C (arF L)])) z : Nat) = _
  rw [dec_A]
theorem ok_index_of_area {C : Addr} (DN : PropD P w K mg base C "names" "_names" 1) (F1 : Call P w K mg base (L2.CX P w) 4 "need_area" ["areas", "name"] (spF 2 (preIx C) fun _ => .ok .none)) {f : Addr} {fd : FuncData} (F : Fun K "index_of_area" "index_of_area" s_index_of_area f fd) (sm : ∃ o, K.lookup sysModules = some o) (B : Gls mg) :
    FnG P w K mg base (L2.CX P w) 5 f fd ["areas", "name"] (spF 2 (preIx C) fun ds => .ok (ixD ds)) := by
  refine fn_data F sc_index_of_area sm (by decide) _ _ fun cdv A outer s H E Bs ds hl hp c ex => ?_
  obtain ⟨L, z, rfl, hL, hz⟩ := hp
  rw [ix_D]
  have nd := sc_index_of_area.nd
  refine gs_cons ?_
  repeat infer_instance
  refine ⟨⟨L, z, rfl, hL, hz⟩, to_ok ?_⟩
  repeat infer_instance
  obtain ⟨q1, q2, q3⟩ := nmIx_at hz
  refine ⟨_, _, rfl, rfl, namesOf L, rfl, ?_⟩
  repeat infer_instance
  exact ⟨z, nmIx (namesOf L) z, rfl, q1, q3, rfl⟩
end
end K13
namespace K13
open PySem PySem.Spec PyProof.Rows L2 Tc Px Py PtA PtB PtC PtD PtE
open LamX (Tabs TabB ExtN TabS)
variable [Px.Fld]
local macro_rules | `(tactic| infer_instance) => `(tactic| first
  | ((with_reducible show GE _ _ (Expr.Call (Expr.Name "wrong_at" _) _ _ _) _ _); (with_reducible refine stop_in ?_))
  )
section
variable {P : Program} {w : World} {K : PySem.W.Frag} {mg : Str → Option Value} {base : Heap}
theorem sc_need_areas_named : FnScope ["areas", "names", "at", "name"] ["areas", "names"] (defScope s_need_areas_named) := ⟨rfl, rfl, rfl, by decide +kernel, rfl, by decide +kernel, by decide +kernel⟩
/-- some names of the areas, ascending -/
structure Hid (zs hs : List Str) : Prop where
  sub : ∀ z ∈ hs, z ∈ zs
  up : Ups hs
theorem Hid.few {zs hs : List Str} (h : Hid zs hs) (hz : zs.length ≤ 10) : hs.length ≤ 10 := by
  have nd : hs.Nodup := h.up.imp fun hab e => by
    subst e
    exact absurd hab (List.lt_irrefl _)
  exact Nat.le_trans (nd.length_le_of_subset h.sub) hz
abbrev preNN (C : Addr) (ds : List PyData) : Prop := ∃ (L : List Ln) (hs : List Str), ds = [inst C (arF L), .tuple (hs.map .str)] ∧ LinesOk L ∧ Hid (namesOf L) hs
theorem ok_need_areas_named {C cc Pt : Addr} {T : List (Addr × Str)} (F1 : Call P w K mg base (L2.CX P w) 3 "is_area" ["areas", "value"] (spF 2 (preIA C) fun ds => .ok (iaD ds))) (FW : Call P w K mg base (L2.CX P w) 5 "wrong_at" ["values", "is_right"] (spS 2 (preWrong P w K mg base)))
    {f : Addr} {fd : FuncData} (F : Fun K "need_areas_named" "need_areas_named" s_need_areas_named f fd) (hcode : fd.code = .ref cc) (sm : ∃ o, K.lookup sysModules = some o) (B : Gls mg) (TB : TabB base mg cc Pt)
    (hmT : (Pt, (envOfC "need_areas_named" (defScope s_need_areas_named) 0 f (.ref cc)).qual ++ "<lambda>") ∈ T) (hu : ∀ p ∈ T, p.1 = Pt → p.2 = (envOfC "need_areas_named" (defScope s_need_areas_named) 0 f (.ref cc)).qual ++ "<lambda>") :
    FnG P w K mg base (L2.CX P w) 6 f fd ["areas", "names"] (spU 2 (preNN C) (fun _ => .ok .none) T) := by
  refine fn_dataTC T F hcode sc_need_areas_named sm (by decide) _ _ fun A outer s H E Bs ds hl hp hT hB c ex => ?_
  obtain ⟨L, hs, rfl, hL, hh⟩ := hp
  have nd := sc_need_areas_named.nd
  refine gs_cons ?_
  repeat infer_instance
  rw [show isD "tuple" (PyData.tuple (hs.map PyData.str)) = true from rfl]
  repeat infer_instance
  repeat (with_reducible refine gs_nil ?_)
  refine gs_cons ?_
  repeat infer_instance
  unfold Stop
  have h1 := hL.one
  have h10 := hL.ten
  refine ge_wrongL (kj := 3) (ns := [("areas", 0)]) (Γm := [.d (inst C (arF L)), .no, .no, .no]) (r := .none) (y0 := "name") (z0 := "names") (j0 := 3) (i0 := 1) (d0 := .tuple (hs.map .str)) (q := fun d => ∃ z ∈ hs, d = .str z) (gf := fun _ => .ok (.bool true)) FW c.toCxt (by decide) rfl rfl TB rfl hmT hu hT hB rfl (lamS1_by (sc := defScope s_need_areas_named) (by decide +kernel)) rfl rfl rfl rfl rfl rfl nd rfl (fun p hp => by
    obtain rfl := List.mem_singleton.mp hp
    exact ⟨rfl, rfl, .inr (.inl rfl), rfl⟩) (fun p hp => by
    obtain rfl := List.mem_singleton.mp hp
    exact ⟨_, rfl⟩) rfl ⟨.inr ⟨rfl, _, rfl⟩, .inl rfl, .inl rfl, .inl rfl, trivial⟩ (fun _ _ _ _ => rfl) (fun x hx A2 outer2 s2 H2 E2 B3 f3 c3 hr hg ex3 => ?_) (fun F' Hs' v f3 dv AC => ⟨v, f3, hs, rfl, dv, AC, hh.up, hh.few (by rw [show (namesOf L).length = L.length from List.length_map _]; exact h10), rfl⟩) ?_
  · obtain ⟨z, hz, rfl⟩ := hx
    have c2 := Cxt.mk hr hg sm
    repeat infer_instance
    refine ⟨⟨L, _, rfl, hL, rfl⟩, to_ok ?_⟩
    rw [ia_D, show isNm L (.str z) = true from decide_eq_true (hh.sub z hz)]
  repeat infer_instance
  rw [if_neg (by decide)]
  repeat (with_reducible refine gs_nil ?_)
  exact rfl
end
end K13
namespace K13
open PySem PySem.Spec PyProof.Rows L2 Tc Px Py PtA PtB PtC PtD PtE
variable [Px.Fld]
local macro_rules | `(tactic| fail "x30GF0") => `(tactic| first
  | ((with_reducible show GF _ _ (Expr.Call (Expr.Name "stretches_of" _) (_ :: _) [] _) _ _); (with_reducible apply gf_callN); (case F => with_reducible assumption); (exact ⟨rfl, rfl, rfl, rfl, rfl⟩); (first | with_reducible assumption | exact Bod.toCxt (by with_reducible assumption)); (eq_refl); (eq_refl); rotate_left; (decide); (exact star_cons rfl); (eq_refl))
  )
local macro_rules | `(tactic| fail "x30G11") => `(tactic| first
  | ((with_reducible show G1 _ _ (Stmt.Assign [Expr.Name _ _] (Expr.Call (Expr.Name "stretches_of" _) [_] _ _) _) _ _); (with_reducible apply set_l); (with_reducible assumption); (eq_refl); (eq_refl); rotate_left; (eq_refl))
  )
local macro_rules | `(tactic| fail "x30GI2") => `(tactic| first
  | ((with_reducible show GI _ _ _ (Expr.Call (Expr.Name "enumerate" _) [Expr.Attribute _ "names" _] _ _) _ _); (refine gi_enumT rfl rfl (Gls.enumerate (by assumption)) rfl (gs_tup (ge_uncl ?_))))
  )
local macro_rules | `(tactic| infer_instance) => `(tactic| first
  | ((with_reducible show GE _ _ (Expr.Call (Expr.Name "need_areas_named" _) _ _ _) _ _); (with_reducible refine stop_in ?_))
  | ((with_reducible show GF _ _ (Expr.Call (Expr.Name "stretches_of" _) (_ :: _) [] _) _ _); fail "x30GF0")
  | ((with_reducible show G1 _ _ (Stmt.Assign [Expr.Name _ _] (Expr.Call (Expr.Name "stretches_of" _) [_] _ _) _) _ _); fail "x30G11")
  | ((with_reducible show GI _ _ _ (Expr.Call (Expr.Name "enumerate" _) [Expr.Attribute _ "names" _] _ _) _ _); fail "x30GI2")
  | ((with_reducible show GT _ _ (Expr.Compare _ [CmpOp.NotIn] [Expr.Name "hidden" _] _) _ _); (refine gt_notin false (by with_unfolding_all rfl) ?_))
  | ((with_reducible show GQ _ _ false (Expr.Name "hidden" _) _ _); (with_reducible refine gq_of ?_))
  )
theorem any_in (hs : List Str) (z : Str) : ((hs.map PyData.str).any fun y => PyData.eqv y (.str z)) = decide (z ∈ hs) := by
  rw [show hs.map PyData.str = strL hs from rfl, any_strs, show strIn (.str z) hs = decide (z ∈ hs) from by rw [Bool.eq_iff_iff]; simp [strIn]]
section
variable {P : Program} {w : World} {K : PySem.W.Frag} {mg : Str → Option Value} {base : Heap}
structure Pg (zs : List Str) (sh : List Nat) (sp : List Rg) (cs : List Int) (hs : List Str) : Prop where
  bse : Bse zs sh sp
  cnt : cs ∈ allL sh sp
  hid : Hid zs hs
abbrev prePg (C : Addr) (ds : List PyData) : Prop := ∃ (zs : List Str) (sh : List Nat) (sp : List Rg) (cs : List Int) (hs : List Str), ds = [inst C (arF (landL zs sh sp)), .tuple (cs.map .int), .tuple (hs.map .str)] ∧ Pg zs sh sp cs hs
theorem Pg.len {zs : List Str} {sh : List Nat} {sp : List Rg} {cs : List Int} {hs : List Str} (p : Pg zs sh sp cs hs) : cs.length = sh.length + 1 := ((all_iff p.bse).mp p.cnt).1
theorem Pg.ic {zs : List Str} {sh : List Nat} {sp : List Rg} {cs : List Int} {hs : List Str} (p : Pg zs sh sp cs hs) (C : Addr) : preIC C [inst C (arF (landL zs sh sp)), .tuple (cs.map .int)] := by
  obtain ⟨l, c⟩ := (all_iff p.bse).mp p.cnt
  refine ⟨landL zs sh sp, gi cs, by rw [land_len, lst_gi l], p.bse.lines, ?_⟩
  rw [land_len, sh_land p.bse.nam p.bse.dist.nd p.bse.shp, spans_land p.bse]
  exact c
theorem sc_need_count : FnScope ["areas", "count"] ["areas", "count"] (defScope s_need_count) := ⟨rfl, rfl, rfl, by decide +kernel, rfl, by decide +kernel, by decide +kernel⟩
theorem ok_need_count {C : Addr} (F1 : Call P w K mg base (L2.CX P w) 5 "is_count" ["areas", "value"] (spF 2 (preIC C) fun _ => .ok (.bool true))) {f : Addr} {fd : FuncData} (F : Fun K "need_count" "need_count" s_need_count f fd) (sm : ∃ o, K.lookup sysModules = some o) (B : Gls mg) :
    FnG P w K mg base (L2.CX P w) 6 f fd ["areas", "count"] (spF 2 (preIC C) fun _ => .ok .none) := by
  refine fn_data F sc_need_count sm (by decide) _ _ fun cdv A outer s H E Bs ds hl hp c ex => ?_
  obtain ⟨L, cf, rfl, hL, hC⟩ := hp
  have nd := sc_need_count.nd
  refine gs_cons ?_
  repeat infer_instance
  refine ⟨⟨L, cf, rfl, hL, hC⟩, to_ok ?_⟩
  repeat infer_instance
  repeat (with_reducible refine gs_nil ?_)
  exact rfl
theorem sc_need_width : FnScope ["width"] ["width"] (defScope s_need_width) := ⟨rfl, rfl, rfl, by decide +kernel, rfl, by decide +kernel, by decide +kernel⟩
abbrev preWd (ds : List PyData) : Prop := ∃ n : Int, ds = [.int n] ∧ 1 ≤ n
theorem ok_need_width (F1 : FInt P w K mg base) {f : Addr} {fd : FuncData} (F : Fun K "need_width" "need_width" s_need_width f fd) (sm : ∃ o, K.lookup sysModules = some o) (B : Gls mg) :
    FnG P w K mg base (L2.CX P w) 2 f fd ["width"] (spF 1 preWd fun _ => .ok .none) := by
  refine fn_data F sc_need_width sm (by decide) _ _ fun cdv A outer s H E Bs ds hl hp c ex => ?_
  obtain ⟨n, rfl, hn⟩ := hp
  have nd := sc_need_width.nd
  refine gs_cons ?_
  repeat infer_instance
  rw [show intB ([PyData.int n].headD PyData.none) = true from rfl]
  rw [if_neg (by decide)]
  repeat infer_instance
  rw [decide_eq_false (show ¬ n < 1 by omega)]
  repeat infer_instance
  repeat (with_reducible refine gs_nil ?_)
  exact rfl
theorem sc_need_page : FnScope ["areas", "count", "hidden"] ["areas", "count", "hidden"] (defScope s_need_page) := ⟨rfl, rfl, rfl, by decide +kernel, rfl, by decide +kernel, by decide +kernel⟩
theorem ok_need_page {C : Addr} {T : List (Addr × Str)} (F0 : FNA P w K mg base C) (F1 : Call P w K mg base (L2.CX P w) 6 "need_count" ["areas", "count"] (spF 2 (preIC C) fun _ => .ok .none)) (F2 : Call P w K mg base (L2.CX P w) 6 "need_areas_named" ["areas", "names"] (spU 2 (preNN C) (fun _ => .ok .none) T))
    {f cc : Addr} {fd : FuncData} (F : Fun K "_need_page" "_need_page" s_need_page f fd) (hcode : fd.code = .ref cc) (sm : ∃ o, K.lookup sysModules = some o) (B : Gls mg) :
    FnG P w K mg base (L2.CX P w) 7 f fd ["areas", "count", "hidden"] (spU 3 (prePg C) (fun _ => .ok .none) T) := by
  refine fn_dataTC T F hcode sc_need_page sm (by decide) _ _ fun A outer s H E Bs ds hl hp hT hB c ex => ?_
  obtain ⟨zs, sh, sp, cs, hs, rfl, p⟩ := hp
  have nd := sc_need_page.nd
  refine gs_cons ?_
  repeat infer_instance
  refine ⟨⟨_, rfl⟩, to_ok ?_⟩
  repeat infer_instance
  refine ⟨p.ic C, to_ok ?_⟩
  repeat infer_instance
  unfold Stop
  refine ge_callU ⟨rfl, rfl, rfl, rfl, rfl⟩ F2 hT hB c.toCxt (by decide) rfl ex ?_ (by decide) (star_cons rfl) rfl
  repeat infer_instance
  refine ⟨⟨landL zs sh sp, hs, rfl, p.bse.lines, by rw [names_land p.bse.nam]; exact p.hid⟩, to_ok ?_⟩
  repeat infer_instance
  repeat (with_reducible refine gs_nil ?_)
  exact rfl
/-! ### the guesses -/
def gsp (zs : List Str) (sp : List Rg) (cs : List Int) (hs : List Str) : List Rg := (List.range zs.length).map fun k => if zg zs k ∈ hs then gp sp k else (gi cs k, gi cs k)
def guL (zs : List Str) (sh : List Nat) (sp : List Rg) (cs : List Int) (hs : List Str) : List Rg := (treeR (pssS sh) (gsp zs sp cs hs)).getD []
def asZ : PyData → Str
  | .str z => z
  | _ => Str.empty
def decZ : PyData → List Str
  | .tuple l => l.map asZ
  | _ => []
theorem dec_Z (hs : List Str) : decZ (.tuple (hs.map .str)) = hs := by
  show (hs.map PyData.str).map asZ = hs
  rw [List.map_map]
  exact (List.map_congr_left fun n _ => rfl).trans (List.map_id' hs)
theorem dec_C (cs : List Int) : itemsD (.tuple (cs.map .int)) = cs := asIs_ints cs
def guR (a c h : PyData) : List Rg := guL (namesOf (decA [a])) (shOf (decA [a])) (spans (decA [a])) (itemsD c) (decZ h)
theorem gu_R (C : Addr) {zs : List Str} {sh : List Nat} {sp : List Rg} (L : Bse zs sh sp) (cs : List Int) (hs : List Str) : guR (inst C (arF (landL zs sh sp))) (.tuple (cs.map .int)) (.tuple (hs.map .str)) = guL zs sh sp cs hs := by
  unfold guR
  rw [dec_A, names_land L.nam, sh_land L.nam L.dist.nd L.shp, spans_land L, dec_C, dec_Z]
theorem gsp_len {zs : List Str} {sp : List Rg} {cs : List Int} {hs : List Str} : (gsp zs sp cs hs).length = zs.length := by
  unfold gsp
  rw [List.length_map, List.length_range]
theorem gsp_at {zs : List Str} {sp : List Rg} {cs : List Int} {hs : List Str} {k : Nat} (h : k < zs.length) : gp (gsp zs sp cs hs) k = if zg zs k ∈ hs then gp sp k else (gi cs k, gi cs k) := by
  rw [← gp_get (by rw [gsp_len]; exact h)]
  unfold gsp
  rw [List.getElem_map, List.getElem_range]
theorem Pg.lie {zs : List Str} {sh : List Nat} {sp : List Rg} {cs : List Int} {hs : List Str} (p : Pg zs sh sp cs hs) {k : Nat} (hk : k < sh.length + 1) : (gp sp k).1 ≤ gi cs k ∧ gi cs k ≤ (gp sp k).2 := ((all_iff p.bse).mp p.cnt).2.lie k hk
theorem Pg.seen {zs : List Str} {sh : List Nat} {sp : List Rg} {cs : List Int} {hs : List Str} (p : Pg zs sh sp cs hs) : Bse zs sh (gsp zs sp cs hs) := ⟨p.bse.five, p.bse.nam, by rw [gsp_len]; exact p.bse.nam, p.bse.dist, p.bse.men, p.bse.shp, fun k hk => by
  rw [gsp_at (by rw [p.bse.nam]; exact hk)]
  have h1 := p.bse.low k hk
  have h2 := p.lie hk
  split
  · exact h1
  · exact ⟨by show 0 ≤ gi cs k; omega, Int.le_refl _, by show gi cs k ≤ 60; omega⟩⟩
theorem Pg.mem {zs : List Str} {sh : List Nat} {sp : List Rg} {cs : List Int} {hs : List Str} (p : Pg zs sh sp cs hs) : cs ∈ allL sh (gsp zs sp cs hs) := by
  obtain ⟨l, c⟩ := (all_iff p.bse).mp p.cnt
  refine (all_iff p.seen).mpr ⟨l, ⟨fun k hk => ?_, c.sum⟩⟩
  rw [gsp_at (by rw [p.bse.nam]; exact hk)]
  split
  · exact c.lie k hk
  · exact ⟨Int.le_refl _, Int.le_refl _⟩
theorem Pg.tree {zs : List Str} {sh : List Nat} {sp : List Rg} {cs : List Int} {hs : List Str} (p : Pg zs sh sp cs hs) : treeR (pssS sh) (gsp zs sp cs hs) = some (guL zs sh sp cs hs) := by
  unfold guL
  cases h : treeR (pssS sh) (gsp zs sp cs hs) with
  | none =>
    have z := col_none p.seen (List.Perm.refl _) h
    have y := p.mem
    rw [z] at y
    cases y
  | some r => rfl
def guD : List PyData → PyData
  | [a, c, h] => .list (rgD (guR a c h))
  | _ => .none
/-- what is told ahead of the line at -/
def gspI (zs : List Str) (sp : List Rg) (cs : List Int) (hs : List Str) (i : Nat) : List Rg := (List.range zs.length).map fun k => if k < i then (if zg zs k ∈ hs then gp sp k else (gi cs k, gi cs k)) else gp sp k
theorem gspI_len {zs : List Str} {sp : List Rg} {cs : List Int} {hs : List Str} {i : Nat} : (gspI zs sp cs hs i).length = zs.length := by
  unfold gspI
  rw [List.length_map, List.length_range]
theorem gspI_zero {zs : List Str} {sp : List Rg} {cs : List Int} {hs : List Str} (h : sp.length = zs.length) : gspI zs sp cs hs 0 = sp := by
  refine List.ext_getElem (by rw [gspI_len, h]) fun i h1 h2 => ?_
  unfold gspI at h1 ⊢
  rw [List.getElem_map, List.getElem_range, if_neg (Nat.not_lt_zero _), gp_get h2]
theorem gspI_all {zs : List Str} {sp : List Rg} {cs : List Int} {hs : List Str} : gspI zs sp cs hs zs.length = gsp zs sp cs hs := by
  unfold gspI gsp
  refine List.map_congr_left fun k hk => ?_
  rw [if_pos (List.mem_range.mp hk)]
theorem gspI_in {zs : List Str} {sp : List Rg} {cs : List Int} {hs : List Str} {i : Nat} (h : zg zs i ∈ hs) : gspI zs sp cs hs (i + 1) = gspI zs sp cs hs i := by
  unfold gspI
  refine List.map_congr_left fun k hk => ?_
  by_cases e : k = i
  · subst e
    rw [if_pos (Nat.lt_succ_self _), if_pos h, if_neg (Nat.lt_irrefl _)]
  · by_cases l : k < i
    · rw [if_pos l, if_pos (show k < i + 1 by omega)]
    · rw [if_neg l, if_neg (show ¬ k < i + 1 by omega)]
theorem gspI_out {zs : List Str} {sp : List Rg} {cs : List Int} {hs : List Str} {i : Nat} (h : zg zs i ∉ hs) : (gspI zs sp cs hs i).set i (gi cs i, gi cs i) = gspI zs sp cs hs (i + 1) := by
  refine List.ext_getElem (by rw [List.length_set, gspI_len, gspI_len]) fun k h1 h2 => ?_
  unfold gspI at h1 h2 ⊢
  rw [List.getElem_set, List.getElem_map, List.getElem_map, List.getElem_range]
  by_cases e : i = k
  · subst e
    rw [if_pos rfl, if_pos (Nat.lt_succ_self _), if_neg h]
  · rw [if_neg e]
    by_cases l : k < i
    · rw [if_pos l, if_pos (show k < i + 1 by omega)]
    · rw [if_neg l, if_neg (show ¬ k < i + 1 by omega)]
theorem sc_guesses : FnScope ["areas", "count", "hidden", "stretches", "at", "name"] ["areas", "count", "hidden"] (defScope s_guesses) := ⟨rfl, rfl, rfl, by decide +kernel, rfl, by decide +kernel, by decide +kernel⟩
theorem ok_guesses {C : Addr} (DN : PropD P w K mg base C "names" "_names" 1) (F3 : FSN P w K mg base C) (F4 : FPO P w K mg base C) (F5 : FTr P w K mg base) {f : Addr} {fd : FuncData} (F : Fun K "_guesses" "_guesses" s_guesses f fd) (sm : ∃ o, K.lookup sysModules = some o) (B : Gls mg) :
    FnG P w K mg base (L2.CX P w) 5 f fd ["areas", "count", "hidden"] (spF 3 (prePg C) fun ds => .ok (guD ds)) := by
  refine fn_data F sc_guesses sm (by decide) _ _ fun cdv A outer s H E Bs ds hl hp c ex => ?_
  obtain ⟨zs, sh, sp, cs, hs, rfl, p⟩ := hp
  have nd := sc_guesses.nd
  have h5 := p.bse.five
  have hz := p.bse.nam
  have hcl := p.len
  rw [show guD [inst C (arF (landL zs sh sp)), .tuple (cs.map .int), .tuple (hs.map .str)] = .list (rgD (guR (inst C (arF (landL zs sh sp))) (.tuple (cs.map .int)) (.tuple (hs.map .str)))) from rfl, gu_R C p.bse]
  refine gs_cons ?_
  repeat infer_instance
  refine ⟨⟨_, rfl, p.bse.lines⟩, ?_⟩
  rw [dec_A, spans_land p.bse]
  repeat infer_instance
  refine ⟨_, _, rfl, rfl, _, rfl, ?_⟩
  repeat infer_instance
  rw [names_land hz]
  refine ⟨fun i Γ => ∃ (ad : Addr) (s4 s5 : Sl), Γ = [.d (inst C (arF (landL zs sh sp))), .d (.tuple (cs.map .int)), .d (.tuple (hs.map .str)), .own ad (rgD (gspI zs sp cs hs i)), s4, s5], ⟨_, _, _, by rw [gspI_zero (by rw [p.bse.len, hz])] <;> rfl⟩, fun _ _ _ _ => trivial, ?_, ?_⟩
  · rintro i Γ hi ⟨ad, s4, s5, rfl⟩
    have lz : (strsD zs).length = zs.length := List.length_map _
    have hi : i < zs.length := by rw [← lz]; exact hi
    have en : Px.nth (strsD zs) i = .str (zg zs i) := by rw [zg_get hi]; exact nth_map hi
    show GG _ _ _ (.tuple [.int (i : Nat), Px.nth (strsD zs) i]) _ _
    rw [en]
    repeat infer_instance
    refine ⟨rfl, strs_plain _, ?_⟩
    rw [any_in]
    by_cases hm : zg zs i ∈ hs
    · rw [decide_eq_true hm]
      repeat infer_instance
      repeat (with_reducible refine gs_nil ?_)
      exact ⟨_, _, _, by rw [gspI_in hm] <;> rfl⟩
    · rw [decide_eq_false hm]
      repeat infer_instance
      have hic : i < cs.length := by rw [hcl, ← hz]; exact hi
      refine ⟨_, at_map hic, ?_⟩
      repeat infer_instance
      refine ⟨_, at_map hic, ?_⟩
      rw [gi_get hic]
      repeat infer_instance
      have gl : (gspI zs sp cs hs i).length = zs.length := gspI_len
      refine ⟨rgD (gspI zs sp cs hs i), i, rfl, (i : Int), rfl, by unfold ixN; rw [if_pos (by omega), if_pos (by unfold rgD; rw [List.length_map]; omega), Int.toNat_natCast], ?_⟩
      have eset : (rgD (gspI zs sp cs hs i)).set i (.tuple [.int (gi cs i), .int (gi cs i)]) = rgD (gspI zs sp cs hs (i + 1)) := by
        rw [← gspI_out hm]
        unfold rgD
        rw [List.map_set] <;> rfl
      rw [eset]
      repeat (with_reducible refine gs_nil ?_)
      exact ⟨_, _, _, rfl⟩
  · rintro Γ ⟨ad, s4, s5, rfl⟩
    show Gs _ _ _ _ _
    refine gs_cons ?_
    repeat infer_instance
    have lz : (strsD zs).length = zs.length := List.length_map _
    refine ⟨⟨_, rfl, p.bse.lines⟩, to_ok ?_⟩
    rw [dec_A, sh_land p.bse.nam p.bse.dist.nd p.bse.shp, lz, gspI_all]
    repeat infer_instance
    refine ⟨⟨_, _, rfl, rfl, by
      have t0 := tr_ok p.bse.lines (str := gsp zs sp cs hs) (by rw [gsp_len, land_len, hz])
      rw [sh_land p.bse.nam p.bse.dist.nd p.bse.shp] at t0
      exact t0⟩, to_ok ?_⟩
    rw [dec_P, dec_R, p.tree]
    exact rfl
end
end K13
namespace K13
open PySem PySem.Spec PyProof.Rows L2 Tc Px Py PtA PtB PtC PtD PtE
variable [Px.Fld]
local macro_rules | `(tactic| infer_instance) => `(tactic| first
  | ((with_reducible show GE _ _ (Expr.Call (Expr.Name "_need_page" _) _ _ _) _ _); (with_reducible refine stop_in ?_))
  | ((with_reducible show GT _ _ (Expr.Compare _ [CmpOp.NotIn] [Expr.Name "hidden" _] _) _ _); (refine gt_notin false (by with_unfolding_all rfl) ?_))
  | ((with_reducible show GQ _ _ false (Expr.Name "hidden" _) _ _); (with_reducible refine gq_of ?_))
  )
section
variable {P : Program} {w : World} {K : PySem.W.Frag} {mg : Str → Option Value} {base : Heap}
abbrev FGu (P : Program) (w : World) (K : PySem.W.Frag) (mg : Str → Option Value) (base : Heap) (C : Addr) : Prop := Call P w K mg base (L2.CX P w) 5 "_guesses" ["areas", "count", "hidden"] (spF 3 (prePg C) fun ds => .ok (guD ds))
abbrev FIx (P : Program) (w : World) (K : PySem.W.Frag) (mg : Str → Option Value) (base : Heap) (C : Addr) : Prop := Call P w K mg base (L2.CX P w) 5 "index_of_area" ["areas", "name"] (spF 2 (preIx C) fun ds => .ok (ixD ds))
abbrev FPg (P : Program) (w : World) (K : PySem.W.Frag) (mg : Str → Option Value) (base : Heap) (C : Addr) (T : List (Addr × Str)) : Prop := Call P w K mg base (L2.CX P w) 7 "_need_page" ["areas", "count", "hidden"] (spU 3 (prePg C) (fun _ => .ok .none) T)
theorem gu_D (C : Addr) {zs : List Str} {sh : List Nat} {sp : List Rg} (L : Bse zs sh sp) (cs : List Int) (hs : List Str) : guD [inst C (arF (landL zs sh sp)), .tuple (cs.map .int), .tuple (hs.map .str)] = .list (rgD (guL zs sh sp cs hs)) := by
  show PyData.list (rgD (guR _ _ _)) = _
  rw [gu_R C L]
theorem Pg.gl {zs : List Str} {sh : List Nat} {sp : List Rg} {cs : List Int} {hs : List Str} (p : Pg zs sh sp cs hs) : (guL zs sh sp cs hs).length = sh.length + 1 := by
  rw [treeR_len p.tree, gsp_len, p.bse.nam]
theorem Bse.inn {zs : List Str} {sh : List Nat} {sp : List Rg} (L : Bse zs sh sp) {k : Nat} (hk : k < sh.length + 1) : zg zs k ∈ namesOf (landL zs sh sp) := name_in L hk
theorem ixl (C : Addr) {zs : List Str} {sh : List Nat} {sp : List Rg} (L : Bse zs sh sp) {k : Nat} (hk : k < sh.length + 1) : ixD [inst C (arF (landL zs sh sp)), .str (zg zs k)] = .int (k : Nat) := by
  rw [ix_D, names_land L.nam, ix_nd L.dist.nd (by rw [L.nam]; exact hk)]
abbrev preAG (C : Addr) (ds : List PyData) : Prop := ∃ (zs : List Str) (sh : List Nat) (sp : List Rg) (cs : List Int) (hs : List Str) (k : Nat), ds = [inst C (arF (landL zs sh sp)), .tuple (cs.map .int), .tuple (hs.map .str), .str (zg zs k)] ∧ Pg zs sh sp cs hs ∧ k < sh.length + 1
def agD : List PyData → PyData
  | [a, c, h, .str z] => strD (gp (guR a c h) (nmIx (namesOf (decA [a])) z))
  | _ => .none
theorem ag_D (C : Addr) {zs : List Str} {sh : List Nat} {sp : List Rg} (L : Bse zs sh sp) (cs : List Int) (hs : List Str) {k : Nat} (hk : k < sh.length + 1) : agD [inst C (arF (landL zs sh sp)), .tuple (cs.map .int), .tuple (hs.map .str), .str (zg zs k)] = strD (gp (guL zs sh sp cs hs) k) := by
  show strD (gp (guR _ _ _) (nmIx (namesOf (decA [inst C (arF (landL zs sh sp))])) (zg zs k))) = _
  rw [gu_R C L, dec_A, names_land L.nam, ix_nd L.dist.nd (by rw [L.nam]; exact hk)]
theorem sc_area_guess : FnScope ["areas", "count", "hidden", "name", "at"] ["areas", "count", "hidden", "name"] (defScope s_area_guess) := ⟨rfl, rfl, rfl, by decide +kernel, rfl, by decide +kernel, by decide +kernel⟩
theorem ok_area_guess {C : Addr} {T : List (Addr × Str)} (FP : FPg P w K mg base C T) (FX : FIx P w K mg base C) (FG : FGu P w K mg base C)
    {f cc : Addr} {fd : FuncData} (F : Fun K "area_guess" "area_guess" s_area_guess f fd) (hcode : fd.code = .ref cc) (sm : ∃ o, K.lookup sysModules = some o) (B : Gls mg) :
    FnG P w K mg base (L2.CX P w) 8 f fd ["areas", "count", "hidden", "name"] (spU 4 (preAG C) (fun ds => .ok (agD ds)) T) := by
  refine fn_dataTC T F hcode sc_area_guess sm (by decide) _ _ fun A outer s H E Bs ds hl hp hT hB c ex => ?_
  obtain ⟨zs, sh, sp, cs, hs, k, rfl, p, hk⟩ := hp
  have nd := sc_area_guess.nd
  rw [ag_D C p.bse cs hs hk]
  refine gs_cons ?_
  repeat infer_instance
  unfold Stop
  refine ge_callU ⟨rfl, rfl, rfl, rfl, rfl⟩ FP hT hB c.toCxt (by decide) rfl ex ?_ (by decide) (star_cons rfl) rfl
  repeat infer_instance
  refine ⟨⟨zs, sh, sp, cs, hs, rfl, p⟩, to_ok ?_⟩
  repeat infer_instance
  refine ⟨⟨_, _, rfl, p.bse.lines, p.bse.inn hk⟩, to_ok ?_⟩
  rw [ixl C p.bse hk]
  repeat infer_instance
  refine ⟨⟨zs, sh, sp, cs, hs, rfl, p⟩, to_ok ?_⟩
  rw [gu_D C p.bse]
  repeat infer_instance
  have hgl := p.gl
  have hgk : k < (guL zs sh sp cs hs).length := by omega
  refine ⟨_, at_map hgk, ?_⟩
  rw [gp_get hgk]
abbrev preSa (C : Addr) (ds : List PyData) : Prop := ∃ (zs : List Str) (sh : List Nat) (sp : List Rg) (cs : List Int) (hs : List Str) (k : Nat) (n : Int), ds = [inst C (arF (landL zs sh sp)), .tuple (cs.map .int), .tuple (hs.map .str), .tuple [.str (zg zs k)], .int n] ∧ Pg zs sh sp cs hs ∧ k < sh.length + 1
def saB (r : List Rg) (zs hs : List Str) (z : Str) (n : Int) : Bool := decide (z ∈ hs) && !decide ((gp r (nmIx zs z)).2 - (gp r (nmIx zs z)).1 < n)
def saD : List PyData → PyData
  | [a, c, h, .tuple [.str z], .int n] => .bool (saB (guR a c h) (namesOf (decA [a])) (decZ h) z n)
  | _ => .none
theorem sa_D (C : Addr) {zs : List Str} {sh : List Nat} {sp : List Rg} (L : Bse zs sh sp) (cs : List Int) (hs : List Str) (z : Str) (n : Int) : saD [inst C (arF (landL zs sh sp)), .tuple (cs.map .int), .tuple (hs.map .str), .tuple [.str z], .int n] = .bool (saB (guL zs sh sp cs hs) zs hs z n) := by
  show PyData.bool (saB (guR _ _ _) (namesOf (decA [inst C (arF (landL zs sh sp))])) (decZ (.tuple (hs.map .str))) z n) = _
  rw [gu_R C L, dec_A, names_land L.nam, dec_Z]
theorem sc_are_safe : FnScope ["areas", "count", "hidden", "some", "width", "guesses", "name", "low", "high"] ["areas", "count", "hidden", "some", "width"] (defScope s_are_safe) := ⟨rfl, rfl, rfl, by decide +kernel, rfl, by decide +kernel, by decide +kernel⟩
theorem ok_are_safe {C : Addr} (FX : FIx P w K mg base C) (FG : FGu P w K mg base C)
    {f : Addr} {fd : FuncData} (F : Fun K "_are_safe" "_are_safe" s_are_safe f fd) (sm : ∃ o, K.lookup sysModules = some o) (B : Gls mg) :
    FnG P w K mg base (L2.CX P w) 6 f fd ["areas", "count", "hidden", "some", "width"] (spF 5 (preSa C) fun ds => .ok (saD ds)) := by
  refine fn_data F sc_are_safe sm (by decide) _ _ fun cdv A outer s H E Bs ds hl hp c ex => ?_
  obtain ⟨zs, sh, sp, cs, hs, k, n, rfl, p, hk⟩ := hp
  have nd := sc_are_safe.nd
  rw [sa_D C p.bse]
  refine gs_cons ?_
  repeat infer_instance
  refine ⟨⟨zs, sh, sp, cs, hs, rfl, p⟩, to_ok ?_⟩
  rw [gu_D C p.bse]
  repeat infer_instance
  have hgl := p.gl
  have hgk : k < (guL zs sh sp cs hs).length := by omega
  have eS : saB (guL zs sh sp cs hs) zs hs (zg zs k) n = (decide (zg zs k ∈ hs) && !decide ((gp (guL zs sh sp cs hs) k).2 - (gp (guL zs sh sp cs hs) k).1 < n)) := by
    unfold saB
    rw [ix_nd p.bse.dist.nd (by rw [p.bse.nam]; exact hk)]
  rw [eS]
  generalize hq : gp (guL zs sh sp cs hs) k = q at eS
  refine ⟨fun i Γ => ∃ s6 s7 s8 : Sl, Γ = [.d (inst C (arF (landL zs sh sp))), .d (.tuple (cs.map .int)), .d (.tuple (hs.map .str)), .d (.tuple [.str (zg zs k)]), .d (.int n), .d (.list (rgD (guL zs sh sp cs hs))), s6, s7, s8] ∧ (0 < i → (decide (zg zs k ∈ hs) && !decide (q.2 - q.1 < n)) = true), ⟨_, _, _, rfl, fun h => absurd h (by decide)⟩, fun _ _ _ _ => trivial, ?_, ?_⟩
  · rintro i Γ hi ⟨s6, s7, s8, rfl, _⟩
    have hi : i < 1 := hi
    obtain rfl : i = 0 := by omega
    show GG _ _ _ (.str (zg zs k)) _ _
    repeat infer_instance
    refine ⟨⟨_, _, rfl, p.bse.lines, p.bse.inn hk⟩, to_ok ?_⟩
    rw [ixl C p.bse hk]
    repeat infer_instance
    refine ⟨_, at_map hgk, ?_⟩
    rw [gp_get hgk, hq]
    unfold strD
    repeat infer_instance
    refine ⟨rfl, strs_plain _, ?_⟩
    rw [any_in]
    by_cases hm : zg zs k ∈ hs
    · rw [decide_eq_true hm]
      repeat infer_instance
      by_cases hn : q.2 - q.1 < n
      · rw [decide_eq_true hn]
        repeat infer_instance
        exact rfl
      · rw [decide_eq_false hn]
        repeat infer_instance
        repeat (with_reducible refine gs_nil ?_)
        exact ⟨_, _, _, rfl, fun _ => rfl⟩
    · rw [decide_eq_false hm]
      repeat infer_instance
      exact rfl
  · rintro Γ ⟨s6, s7, s8, rfl, hS⟩
    show Gs _ _ _ _ _
    refine gs_cons ?_
    repeat infer_instance
    rw [hS Nat.one_pos]
abbrev FSa (P : Program) (w : World) (K : PySem.W.Frag) (mg : Str → Option Value) (base : Heap) (C : Addr) : Prop := Call P w K mg base (L2.CX P w) 6 "_are_safe" ["areas", "count", "hidden", "some", "width"] (spF 5 (preSa C) fun ds => .ok (saD ds))
abbrev preIS (C : Addr) (ds : List PyData) : Prop := ∃ (zs : List Str) (sh : List Nat) (sp : List Rg) (cs : List Int) (hs : List Str) (k : Nat) (n : Int), ds = [inst C (arF (landL zs sh sp)), .tuple (cs.map .int), .tuple (hs.map .str), .str (zg zs k), .int n] ∧ Pg zs sh sp cs hs ∧ k < sh.length + 1 ∧ 1 ≤ n
def isD2 : List PyData → PyData
  | [a, c, h, z, n] => saD [a, c, h, .tuple [z], n]
  | _ => .none
theorem is_D2 (C : Addr) {zs : List Str} {sh : List Nat} {sp : List Rg} (L : Bse zs sh sp) (cs : List Int) (hs : List Str) (z : Str) (n : Int) : isD2 [inst C (arF (landL zs sh sp)), .tuple (cs.map .int), .tuple (hs.map .str), .str z, .int n] = .bool (saB (guL zs sh sp cs hs) zs hs z n) := sa_D C L cs hs z n
theorem sc_is_safe_area : FnScope ["areas", "count", "hidden", "name", "width"] ["areas", "count", "hidden", "name", "width"] (defScope s_is_safe_area) := ⟨rfl, rfl, rfl, by decide +kernel, rfl, by decide +kernel, by decide +kernel⟩
theorem ok_is_safe_area {C : Addr} {T : List (Addr × Str)} (FP : FPg P w K mg base C T) (FX : FIx P w K mg base C) (FW : Call P w K mg base (L2.CX P w) 2 "need_width" ["width"] (spF 1 preWd fun _ => .ok .none)) (FS : FSa P w K mg base C)
    {f cc : Addr} {fd : FuncData} (F : Fun K "is_safe_area" "is_safe_area" s_is_safe_area f fd) (hcode : fd.code = .ref cc) (sm : ∃ o, K.lookup sysModules = some o) (B : Gls mg) :
    FnG P w K mg base (L2.CX P w) 8 f fd ["areas", "count", "hidden", "name", "width"] (spU 5 (preIS C) (fun ds => .ok (isD2 ds)) T) := by
  refine fn_dataTC T F hcode sc_is_safe_area sm (by decide) _ _ fun A outer s H E Bs ds hl hp hT hB c ex => ?_
  obtain ⟨zs, sh, sp, cs, hs, k, n, rfl, p, hk, hn⟩ := hp
  have nd := sc_is_safe_area.nd
  rw [is_D2 C p.bse cs hs]
  refine gs_cons ?_
  repeat infer_instance
  unfold Stop
  refine ge_callU ⟨rfl, rfl, rfl, rfl, rfl⟩ FP hT hB c.toCxt (by decide) rfl ex ?_ (by decide) (star_cons rfl) rfl
  repeat infer_instance
  refine ⟨⟨zs, sh, sp, cs, hs, rfl, p⟩, to_ok ?_⟩
  repeat infer_instance
  refine ⟨⟨_, _, rfl, p.bse.lines, p.bse.inn hk⟩, to_ok ?_⟩
  repeat infer_instance
  refine ⟨⟨n, rfl, hn⟩, to_ok ?_⟩
  repeat infer_instance
  refine ⟨⟨zs, sh, sp, cs, hs, k, n, rfl, p, hk⟩, to_ok ?_⟩
  rw [sa_D C p.bse]
theorem Pg.at {zs : List Str} {sh : List Nat} {sp : List Rg} {cs : List Int} {hs : List Str} (p : Pg zs sh sp cs hs) {z : Str} (h : z ∈ hs) : ∃ k, k < sh.length + 1 ∧ z = zg zs k := by
  obtain ⟨k, hk, e⟩ := List.getElem_of_mem (p.hid.sub z h)
  exact ⟨k, by rw [← p.bse.nam]; exact hk, by rw [zg_get hk, e]⟩
def woL (r : List Rg) (zs hs : List Str) : List Str := hs.filter fun z => !saB r zs hs z 1
def woD : List PyData → PyData
  | [a, c, h] => .tuple ((woL (guR a c h) (namesOf (decA [a])) (decZ h)).map .str)
  | _ => .none
theorem wo_D (C : Addr) {zs : List Str} {sh : List Nat} {sp : List Rg} (L : Bse zs sh sp) (cs : List Int) (hs : List Str) : woD [inst C (arF (landL zs sh sp)), .tuple (cs.map .int), .tuple (hs.map .str)] = .tuple ((woL (guL zs sh sp cs hs) zs hs).map .str) := by
  show PyData.tuple ((woL (guR _ _ _) (namesOf (decA [inst C (arF (landL zs sh sp))])) (decZ (.tuple (hs.map .str)))).map .str) = _
  rw [gu_R C L, dec_A, names_land L.nam, dec_Z]
theorem sc_worked_out_areas : FnScope ["areas", "count", "hidden", "name"] ["areas", "count", "hidden"] (defScope s_worked_out_areas) := ⟨rfl, rfl, rfl, by decide +kernel, rfl, by decide +kernel, by decide +kernel⟩
theorem ok_worked_out_areas {C : Addr} {T : List (Addr × Str)} (FP : FPg P w K mg base C T) (FS : FSa P w K mg base C)
    {f cc : Addr} {fd : FuncData} (F : Fun K "worked_out_areas" "worked_out_areas" s_worked_out_areas f fd) (hcode : fd.code = .ref cc) (sm : ∃ o, K.lookup sysModules = some o) (B : Gls mg) :
    FnG P w K mg base (L2.CX P w) 8 f fd ["areas", "count", "hidden"] (spU 3 (prePg C) (fun ds => .ok (woD ds)) T) := by
  refine fn_dataTC T F hcode sc_worked_out_areas sm (by decide) _ _ fun A outer s H E Bs ds hl hp hT hB c ex => ?_
  obtain ⟨zs, sh, sp, cs, hs, rfl, p⟩ := hp
  have nd := sc_worked_out_areas.nd
  rw [wo_D C p.bse]
  refine gs_cons ?_
  repeat infer_instance
  unfold Stop
  refine ge_callU ⟨rfl, rfl, rfl, rfl, rfl⟩ FP hT hB c.toCxt (by decide) rfl ex ?_ (by decide) (star_cons rfl) rfl
  repeat infer_instance
  refine ⟨⟨zs, sh, sp, cs, hs, rfl, p⟩, to_ok ?_⟩
  repeat infer_instance
  ((with_reducible apply gf_lk); (eq_refl); (assumption); (eq_refl); (eq_refl); (eq_refl); (intro _; eq_refl))
  repeat infer_instance
  have h5 := p.bse.five
  have hz := p.bse.nam
  have hten := p.hid.few (by omega)
  have lh : (hs.map PyData.str).length = hs.length := List.length_map _
  rw [lh]
  refine ⟨Nat.le_trans (show hs.length ≤ 1000 by omega) (by decide), fun i => !saB (guL zs sh sp cs hs) zs hs (hs.getD i Str.empty) 1, fun i => PyData.str (hs.getD i Str.empty), fun i hi B' => ?_, ?_⟩
  · have en : Px.nth (hs.map PyData.str) i = .str hs[i] := nth_map hi
    have eG : hs.getD i Str.empty = hs[i] := getD_at hi
    obtain ⟨k, hk, e⟩ := p.at (List.getElem_mem hi)
    rw [en]
    generalize hs[i] = z at e eG
    subst e
    repeat infer_instance
    refine ⟨⟨zs, sh, sp, cs, hs, k, 1, rfl, p, hk⟩, to_ok ?_⟩
    rw [sa_D C p.bse]
    refine ⟨_, rfl, by show (!_) = !saB _ zs hs (hs.getD i Str.empty) 1; rw [eG], ?_⟩
    cases hb : saB (guL zs sh sp cs hs) zs hs (zg zs k) 1
    · repeat infer_instance
      exact ⟨by show PyData.str (zg zs k) = PyData.str (hs.getD i Str.empty); rw [eG], rfl⟩
    · exact rfl
  show Out.ok _ = .ok _
  rw [fil_some Str.empty hs (fun z => !saB (guL zs sh sp cs hs) zs hs z 1) PyData.str] <;> rfl
end
end K13
namespace K13
open PySem PySem.Spec PyProof.Rows L2 Tc Px Py PtA PtB PtC PtD PtE
variable [Px.Fld]
local macro_rules | `(tactic| fail "x32G10") => `(tactic| first
  | ((with_reducible show G1 _ _ (Stmt.Assign [Expr.Tuple [Expr.Name _ _, Expr.Name _ _, Expr.Name _ _] _ _] (Expr.Tuple [_, _, Expr.List [] _] _ _) _) _ _); (with_reducible apply par_ddo); (with_reducible assumption); (assumption); (eq_refl); (eq_refl); (eq_refl); (eq_refl); (eq_refl); (eq_refl); (eq_refl); (eq_refl); (eq_refl); (eq_refl); (eq_refl); (eq_refl); (exact star_cons rfl); (exact star_cons rfl); (exact star_cons rfl))
  )
local macro_rules | `(tactic| fail "x32G11") => `(tactic| first
  | ((with_reducible show G1 _ _ (Stmt.Assign [Expr.Tuple [Expr.Name _ _, Expr.Name _ _] _ _] (Expr.Tuple [Expr.List _ _, _] _ _) _) _ _); (with_reducible apply par_onC); (with_reducible assumption); (assumption); (eq_refl); (eq_refl); (eq_refl); (eq_refl); (eq_refl); (first | exact .inl rfl | exact .inr rfl); (first | exact .inl rfl | exact .inr rfl); (eq_refl); (eq_refl); (eq_refl); (eq_refl); (eq_refl); (eq_refl); (eq_refl); (exact star_cons rfl); (exact star_cons rfl))
  )
local macro_rules | `(tactic| infer_instance) => `(tactic| first
  | ((with_reducible show G1 _ _ (Stmt.Assign [Expr.Tuple [Expr.Name _ _, Expr.Name _ _, Expr.Name _ _] _ _] (Expr.Tuple [_, _, Expr.List [] _] _ _) _) _ _); fail "x32G10")
  | ((with_reducible show G1 _ _ (Stmt.Assign [Expr.Tuple [Expr.Name _ _, Expr.Name _ _] _ _] (Expr.Tuple [Expr.List _ _, _] _ _) _) _ _); fail "x32G11")
  )
local macro_rules | `(tactic| infer_instance) => `(tactic| first
  | ((with_reducible show GT _ _ (Expr.Compare _ [CmpOp.NotIn] [Expr.Name "_law_found" _] _) _ _); (refine gt_notin true (by with_unfolding_all rfl) ?_))
  | ((with_reducible show G1 _ _ (Stmt.Assign [Expr.Name _ _] (Expr.BinOp (Expr.List _ _) Operator.Mult _ _) _) _ _); (with_reducible apply set_l); (with_reducible assumption); (eq_refl); (eq_refl); rotate_left; (eq_refl))
  | ((with_reducible show GI _ _ (Expr.Tuple _ _ _) (Expr.Call (Expr.Name "zip" _) _ _ _) _ _); (with_reducible apply gi_zip false false); (eq_refl); (eq_refl); (exact Gls.zip (by assumption)); (eq_refl); (eq_refl); (eq_refl))
  | ((with_reducible show GI _ _ _ (Expr.Call (Expr.Name "range" _) [_, _, _] _ _) _ _); (with_reducible apply gi_rg3); (with_reducible eq_refl); (eq_refl); (exact Gls.range (by assumption)); rotate_left; (eq_refl); (eq_refl))
  | ((with_reducible show GS _ _ true (Expr.Call _ _ _ _) _ _); (with_reducible refine gs_list ?_))
  | ((with_reducible show GS _ _ _ (Expr.Name _ _) _ _); (with_reducible refine gs_sel ?_))
  | ((with_reducible show GT _ _ (Expr.Compare _ [CmpOp.NotIn] [Expr.Name "_law_shape" _] _) _ _); (refine gt_notin true (by with_unfolding_all rfl) ?_))
  | ((with_reducible show GT _ _ (Expr.Compare _ [CmpOp.In] [Expr.Name "_law_own" _] _) _ _); (refine gt_in true (by with_unfolding_all rfl) ?_))
  | ((with_reducible show GQ _ _ true (Expr.Name "_law_own" _) _ _); (with_reducible refine gq_of ?_))
  | ((with_reducible show GQ _ _ true (Expr.Name "_law_shape" _) _ _); (with_reducible refine gq_of ?_))
  )
/-- lines around a count -/
structure Town (zs : List Str) (sh : List Nat) (sp : List Rg) (cs : List Int) : Prop where
  bse : Bse zs sh sp
  four : sh.length ≤ 4
  cnt : cs ∈ allL sh sp
  nar : ∀ k, k < sh.length + 1 → (gp sp k).2 ≤ (gp sp k).1 + 6
theorem land_snoc {zs : List Str} {sh : List Nat} {sp : List Rg} {i : Nat} (hl : sp.length = i) {x : Rg} : ((List.range (i + 1)).map (landAt zs sh (sp ++ [x]))).map lineD = ((List.range i).map (landAt zs sh sp)).map lineD ++ [lineD (landAt zs sh (sp ++ [x]) i)] := by
  rw [List.range_succ, List.map_append, List.map_append]
  refine congrArg (· ++ _) (congrArg (List.map lineD) (List.map_congr_left fun k hk => ?_))
  have := List.mem_range.mp hk
  unfold landAt
  rw [gp_snoc, if_pos (show k < sp.length by omega)]
section
variable {P : Program} {w : World} {K : PySem.W.Frag} {mg : Str → Option Value} {base : Heap}
abbrev preTown (ms ds : List PyData) : Prop := Jar ms ∧ ds = [.int 5, .int 4]
abbrev RTown (_ _ : List PyData) (o : Out) (ms' : List PyData) : Prop := Jar ms' ∧ ∃ (zs : List Str) (sh : List Nat) (sp : List Rg) (cs : List Int), o = .ok (.tuple [.list (natsD sh), linesD (landL zs sh sp), .tuple (cs.map .int)]) ∧ Town zs sh sp cs
theorem sc_ltown : FnScope ["_law_jar_here", "_law_most", "_law_room", "_law_many", "_law_k", "_law_shape", "_law_tags_here", "_law_lines", "_law_numbers", "_law_number", "_law_low"] ["_law_jar_here", "_law_most", "_law_room"] (defScope s_ltown) := ⟨rfl, rfl, rfl, by decide +kernel, rfl, by decide +kernel, by decide +kernel⟩
theorem ok_ltown (F1 : FDraw P w K mg base) (F3 : FTags P w K mg base) (F4 : FLv P w K mg base) (F5 : FSums P w K mg base) {f : Addr} {fd : FuncData} (F : Fun K "_law_town" "_law_town" s_ltown f fd) (sm : ∃ o, K.lookup sysModules = some o) (B : Gls mg) :
    FnG P w K mg base (L2.CX P w) 4 f fd ["_law_jar_here", "_law_most", "_law_room"] (spP 2 preTown RTown) := by
  refine fn_pail F sc_ltown sm rfl _ _ fun cdv A outer s H E Bs a ms ds hl hp c ex => ?_
  obtain ⟨hj, rfl⟩ := hp
  have nd := sc_ltown.nd
  refine gs_cons ?_
  repeat infer_instance
  refine ⟨⟨hj, 5, rfl, by decide, by decide⟩, fun o ms1 hR => ?_⟩
  clear hj
  obtain ⟨hj, _, r, e, eo, r0, r1⟩ := hR
  cases e
  subst eo
  refine to_ok ?_
  obtain ⟨n, rfl⟩ : ∃ n : Nat, r = (n : Int) := ⟨r.toNat, by omega⟩
  have hn : n ≤ 4 := by omega
  repeat infer_instance
  (with_reducible apply gf_lcS)
  (eq_refl)
  (assumption)
  (eq_refl)
  (eq_refl)
  (eq_refl)
  (intro _; eq_refl)
  repeat infer_instance
  rw [show (1 + (n : Int) - 1).toNat = n by omega]
  rw [show (fun i : Nat => PyData.int (0 + (i : Int))) = fun i : Nat => PyData.int (i : Int) from funext fun i => by rw [Int.zero_add]]
  refine ⟨by omega, by omega, fun i acc Γ => ∃ (m2 : List PyData) (sh : List Nat), Jar m2 ∧ acc = natsD sh ∧ sh.length = i ∧ ShOk sh ∧ Γ = [.own a m2, .d (.int 5), .d (.int 4), .d (.int (1 + n)), .no, .no, .no, .no, .no, .no, .no], ⟨ms1, [], hj, rfl, rfl, (fun k hk => absurd hk (Nat.not_lt_zero _)), rfl⟩, fun _ _ _ _ _ => trivial, ?_, ?_⟩
  · clear hj
    rintro i acc Γ hi ⟨m2, sh, hj, rfl, hl, hs, rfl⟩ B'
    repeat infer_instance
    refine ⟨⟨hj, _, rfl, by omega, by omega⟩, fun o m3 hR => ?_⟩
    clear hj
    obtain ⟨hj, _, r, e, eo, r0, r1⟩ := hR
    cases e
    subst eo
    refine to_ok ?_
    obtain ⟨q, rfl⟩ : ∃ q : Nat, r = (q : Int) := ⟨r.toNat, by omega⟩
    have hq : q ≤ sh.length := by omega
    repeat infer_instance
    refine ⟨Nat.lt_of_le_of_lt (show (natsD sh).length ≤ 1000 by unfold natsD; rw [List.length_map]; omega) (by decide), m3, sh ++ [q], hj, by unfold natsD; rw [List.map_append] <;> rfl, by rw [List.length_append, hl] <;> rfl, shok_snoc hs hq, rfl⟩
  clear hj
  rintro acc Γ ⟨m2, sh, hj, rfl, hl, hs, rfl⟩
  repeat infer_instance
  subst hl
  rw [show (1 + (sh.length : Int)) = ((1 + sh.length : Nat) : Int) by omega]
  refine ⟨⟨hj, _, rfl, by omega⟩, fun o m3 hR => ?_⟩
  clear hj
  obtain ⟨hj, _, zs, e, eo, hzl, hzd, hzm⟩ := hR
  have e := Int.ofNat.inj (PyData.int.inj (List.cons.inj e).1)
  subst eo
  rw [← e] at hzl
  clear e
  refine to_ok ?_
  repeat infer_instance
  (with_reducible apply gf_lcS)
  (eq_refl)
  (assumption)
  (eq_refl)
  (eq_refl)
  (eq_refl)
  (intro _; eq_refl)
  repeat infer_instance
  refine ⟨⟨sh, rfl, by omega⟩, to_ok ?_⟩
  rw [show lvD [.list (natsD sh)] = .list (natsD (lvS sh)) from by unfold lvD; rw [List.headD_cons, dec_S]]
  repeat infer_instance
  have llv : (natsD (lvS sh)).length = (lvS sh).length := List.length_map _
  have lvle : (lvS sh).length ≤ sh.length + 1 := by
    unfold lvS
    exact Nat.le_trans (List.length_filter_le _ _) (Nat.le_of_eq (List.length_range))
  rw [llv]
  refine ⟨fun i acc Γ => ∃ (m4 : List PyData) (nums : List Int) (ad : Addr), Jar m4 ∧ acc = nums.map .int ∧ nums.length = i ∧ (∀ x ∈ nums, 0 ≤ x ∧ x ≤ 9) ∧ Γ = [.own a m4, .d (.int 5), .d (.int 4), .d (.int (1 + sh.length : Nat)), .no, .d (.list (natsD sh)), .d (.list (strsD zs)), .own ad (rgD []), .no, .no, .no], ⟨m3, [], _, hj, rfl, rfl, (fun _ h => nomatch h), rfl⟩, fun _ _ _ _ _ => trivial, ?_, ?_⟩
  · clear hj
    rintro i acc Γ hi ⟨m4, nums, ad, hj, rfl, hl, hv, rfl⟩ B'
    have e1 : Px.nth (natsD (lvS sh)) i = PyData.int ((lvS sh)[i] : Nat) := nth_map (g := fun n : Nat => PyData.int (n : Int)) hi
    rw [e1]
    repeat infer_instance
    refine ⟨⟨hj, _, rfl, by decide, by decide⟩, fun o m5 hR => ?_⟩
    clear hj
    obtain ⟨hj, _, x, e, eo, r0, r1⟩ := hR
    cases e
    subst eo
    refine to_ok ?_
    repeat infer_instance
    refine ⟨Nat.lt_of_le_of_lt (show (nums.map PyData.int).length ≤ 1000 by rw [List.length_map]; omega) (by decide), m5, nums ++ [x], ad, hj, by rw [List.map_append] <;> rfl, by rw [List.length_append, hl] <;> rfl, ?_, rfl⟩
    intro y hy
    rcases List.mem_append.mp hy with hy | hy
    · exact hv y hy
    · obtain rfl := List.mem_singleton.mp hy
      exact ⟨r0, by omega⟩
  clear hj
  rintro acc Γ ⟨m4, nums, ad, hj, rfl, hl, hv, rfl⟩
  repeat infer_instance
  have hb := sums_bnd hs hl hv
  have hin := (sums_inner hs hl).1
  have hsl := sums_len (sh := sh) (nums := nums)
  refine ⟨⟨sh, nums, true, rfl, hs, by omega, hl⟩, to_ok ?_⟩
  rw [show sumsD [.list (natsD sh), .list (nums.map .int)] = .tuple ((sumsL (decS (.list (natsD sh))) (itemsD (.list (nums.map .int)))).map .int) from rfl, dec_S, show itemsD (.list (nums.map .int)) = nums from asIs_ints nums]
  generalize sumsL sh nums = tt at hb hsl hin ⊢
  clear hv hl nums
  have ltt : (tt.map PyData.int).length = sh.length + 1 := (List.length_map _).trans hsl
  refine ⟨rfl, ?_⟩
  show Gs _ _ _ _ _
  refine gs_cons ?_
  repeat infer_instance
  refine ⟨fun i Γ => ∃ (m5 : List PyData) (sp : List Rg) (ad : Addr) (s4 s9 s10 : Sl), Jar m5 ∧ sp.length = i ∧ (∀ k, k < i → 0 ≤ (gp sp k).1 ∧ (gp sp k).1 ≤ gi tt k ∧ gi tt k ≤ (gp sp k).2 ∧ (gp sp k).2 ≤ 60 ∧ (gp sp k).2 ≤ (gp sp k).1 + 6) ∧ Γ = [.own a m5, .d (.int 5), .d (.int 4), .d (.int (1 + sh.length : Nat)), s4, .d (.list (natsD sh)), .d (.list (strsD zs)), .own ad (((List.range i).map (landAt zs sh sp)).map lineD), .d (.tuple (tt.map .int)), s9, s10], ⟨m4, [], _, _, _, _, hj, rfl, (fun k hk => absurd hk (Nat.not_lt_zero _)), rfl⟩, fun _ _ _ _ => trivial, ?_, ?_⟩
  · clear hj
    rintro i Γ hi ⟨m5, sp, ad, s4, s9, s10, hj, hl, hok, rfl⟩
    have hi : i < sh.length + 1 := by rw [← ltt]; exact hi
    have e1 : Px.nth (tt.map PyData.int) i = PyData.int (tt[i]'(by omega)) := nth_map (by omega)
    rw [gi_get] at e1
    obtain ⟨b0, b1⟩ := hb i hi
    generalize hv : gi tt i = v at e1 b0 b1
    show GG _ _ _ (.tuple [.int (i : Nat), Px.nth (tt.map PyData.int) i]) _ _
    rw [e1]
    repeat infer_instance
    refine ⟨⟨hj, _, rfl, by decide, by decide⟩, fun o m6 hR => ?_⟩
    clear hj
    obtain ⟨hj, _, r, e, eo, r0, r1⟩ := hR
    cases e
    subst eo
    refine to_ok ?_
    repeat infer_instance
    have hz : ∀ k, (h : k < zs.length) → zs[k] = zg zs k := fun k h => (getD_at h).symm
    have hi1 : i < zs.length := by omega
    refine ⟨_, at_map (g := PyData.str) hi1, ?_⟩
    rw [hz i hi1]
    repeat infer_instance
    generalize hlo : (if v - r > 0 then v - r else 0) = lo
    have hlo1 : 0 ≤ lo ∧ lo ≤ v ∧ v - 3 ≤ lo := by
      rw [← hlo]
      split <;> omega
    have new : ∀ {x : Rg}, 0 ≤ x.1 → x.1 ≤ v → v ≤ x.2 → (x.2 ≤ 60 ∧ x.2 ≤ x.1 + 6) → ∀ k, k < i + 1 → 0 ≤ (gp (sp ++ [x]) k).1 ∧ (gp (sp ++ [x]) k).1 ≤ gi tt k ∧ gi tt k ≤ (gp (sp ++ [x]) k).2 ∧ (gp (sp ++ [x]) k).2 ≤ 60 ∧ (gp (sp ++ [x]) k).2 ≤ (gp (sp ++ [x]) k).1 + 6 := fun {x} h1 h2 h3 h4 k hk => by
      rw [gp_snoc]
      by_cases e : k < sp.length
      · rw [if_pos e]
        exact hok k (by omega)
      · have ek : k = i := by omega
        rw [if_neg e, if_pos (by omega), ek, hv]
        exact ⟨h1, h2, h3, h4⟩
    by_cases i0 : i = 0
    · rw [show PyData.eqv (.int i) (.int 0) = true from by rw [eqv_int]; exact decide_eq_true (by omega), if_pos rfl]
      repeat infer_instance
      refine ⟨⟨hj, _, rfl, by decide, by decide⟩, fun o m7 hR => ?_⟩
      clear hj
      obtain ⟨hj, _, r2, e, eo, r3, r4⟩ := hR
      cases e
      subst eo
      refine to_ok ?_
      repeat infer_instance
      refine ⟨Nat.lt_of_le_of_lt (show (((List.range i).map (landAt zs sh sp)).map lineD).length ≤ 1000 by rw [List.length_map, List.length_map, List.length_range]; omega) (by decide), ?_⟩
      repeat (with_reducible refine gs_nil ?_)
      have eL : ((List.range (i + 1)).map (landAt zs sh (sp ++ [(lo, v + r2)]))).map lineD = ((List.range i).map (landAt zs sh sp)).map lineD ++ [.tuple [.str (zg zs i), .str (Str.empty), .tuple [.int lo, .int (v + r2)]]] := by
        rw [land_snoc hl, show landAt zs sh (sp ++ [(lo, v + r2)]) i = (zg zs i, Str.empty, (lo, v + r2)) from by unfold landAt; rw [if_pos i0, gp_snoc, if_neg (show ¬ i < sp.length by omega), if_pos hl.symm]] <;> rfl
      refine ⟨m7, sp ++ [(lo, v + r2)], ad, .d (.int i), .d (.int v), .d (.int lo), hj, by rw [List.length_append, hl] <;> rfl, new (x := (lo, v + r2)) (by show 0 ≤ lo; omega) (by show lo ≤ v; omega) (by show v ≤ v + r2; omega) (by show v + r2 ≤ 60 ∧ v + r2 ≤ lo + 6; omega), ?_⟩
      rw [eL] <;> rfl
    · rw [show PyData.eqv (.int i) (.int 0) = false from by rw [eqv_int]; exact decide_eq_false (by omega), if_neg (by decide)]
      repeat infer_instance
      have hpa := pa_lt hs (show 0 < i by omega) hi
      have hp2 : paS sh i < zs.length := by omega
      have hi2 : i - 1 < sh.length := by omega
      rw [show (i : Int) - 1 = ((i - 1 : Nat) : Int) by omega]
      refine ⟨_, at_map (g := fun n : Nat => PyData.int (n : Int)) hi2, ?_⟩
      rw [show sh[i - 1] = paS sh i from (getD_at hi2).symm]
      refine ⟨_, at_map (g := PyData.str) hp2, ?_⟩
      rw [hz _ hp2]
      repeat infer_instance
      refine ⟨⟨hj, _, rfl, by decide, by decide⟩, fun o m7 hR => ?_⟩
      clear hj
      obtain ⟨hj, _, r2, e, eo, r3, r4⟩ := hR
      cases e
      subst eo
      refine to_ok ?_
      repeat infer_instance
      refine ⟨Nat.lt_of_le_of_lt (show (((List.range i).map (landAt zs sh sp)).map lineD).length ≤ 1000 by rw [List.length_map, List.length_map, List.length_range]; omega) (by decide), ?_⟩
      repeat (with_reducible refine gs_nil ?_)
      have eL : ((List.range (i + 1)).map (landAt zs sh (sp ++ [(lo, v + r2)]))).map lineD = ((List.range i).map (landAt zs sh sp)).map lineD ++ [.tuple [.str (zg zs i), .str (zg zs (paS sh i)), .tuple [.int lo, .int (v + r2)]]] := by
        rw [land_snoc hl, show landAt zs sh (sp ++ [(lo, v + r2)]) i = (zg zs i, zg zs (paS sh i), (lo, v + r2)) from by unfold landAt; rw [if_neg i0, gp_snoc, if_neg (show ¬ i < sp.length by omega), if_pos hl.symm]] <;> rfl
      refine ⟨m7, sp ++ [(lo, v + r2)], ad, .d (.int i), .d (.int v), .d (.int lo), hj, by rw [List.length_append, hl] <;> rfl, new (x := (lo, v + r2)) (by show 0 ≤ lo; omega) (by show lo ≤ v; omega) (by show v ≤ v + r2; omega) (by show v + r2 ≤ 60 ∧ v + r2 ≤ lo + 6; omega), ?_⟩
      rw [eL] <;> rfl
  clear hj
  rintro Γ ⟨m5, sp, ad, s4, s9, s10, hj, hl, hok, rfl⟩
  show Gs _ _ _ _ _
  refine gs_cons ?_
  repeat infer_instance
  rw [ltt] at hl hok ⊢
  have BS : Bse zs sh sp := ⟨by omega, by omega, hl, hzd, hzm, hs, fun k hk => by
    obtain ⟨h1, h2, h3, h4, h5⟩ := hok k hk
    omega⟩
  exact ⟨hj, zs, sh, sp, tt, rfl, BS, by omega, (all_iff BS).mpr ⟨hsl, ⟨fun k hk => ⟨(hok k hk).2.1, (hok k hk).2.2.1⟩, hin⟩⟩, fun k hk => (hok k hk).2.2.2.2⟩
end
end K13
namespace K13
open PySem PySem.Spec PyProof.Rows L2 Tc Px Py PtA PtB PtC PtD PtE
variable [Px.Fld]
local macro_rules | `(tactic| fail "x33GI0") => `(tactic| first
  | ((with_reducible show GI _ _ _ (Expr.Call (Expr.Name "zip" _) _ _ _) _ _); (with_reducible apply gi_zip false false); (eq_refl); (eq_refl); (exact Gls.zip (by assumption)); (eq_refl); (eq_refl); (eq_refl))
  )
local macro_rules | `(tactic| infer_instance) => `(tactic| first
  | ((with_reducible show GI _ _ _ (Expr.Call (Expr.Name "zip" _) _ _ _) _ _); fail "x33GI0")
  | ((with_reducible show GT _ _ (Expr.Compare _ [CmpOp.In] [Expr.Name "_law_names_here" _] _) _ _); (refine gt_in false (by with_unfolding_all rfl) ?_))
  | ((with_reducible show GQ _ _ false (Expr.Name "_law_names_here" _) _ _); (with_reducible refine gq_of ?_))
  )
section
variable {P : Program} {w : World} {K : PySem.W.Frag} {mg : Str → Option Value} {base : Heap}
def reL (L : List Ln) (r : List Rg) : List Ln := (List.range L.length).map fun i => ((L.getD i ln0).1, (L.getD i ln0).2.1, gp r i)
theorem re_land (zs : List Str) (sh : List Nat) (sp r : List Rg) : reL (landL zs sh sp) r = landL zs sh r := by
  unfold reL landL
  rw [show ((List.range (sh.length + 1)).map (landAt zs sh sp)).length = sh.length + 1 from by rw [List.length_map, List.length_range]]
  refine List.map_congr_left fun k hk => ?_
  have hk := List.mem_range.mp hk
  have e0 : ((List.range (sh.length + 1)).map (landAt zs sh sp)).getD k ln0 = landAt zs sh sp k := by
    rw [List.getD_eq_getElem?_getD, List.getElem?_map, List.getElem?_range hk] <;> rfl
  rw [e0] <;> rfl
def seD : List PyData → PyData
  | [l, c, h] => linesD (reL (decA1 l) (gsp (namesOf (decA1 l)) (spans (decA1 l)) (itemsD c) (decZ h)))
  | _ => .none
theorem se_D {zs : List Str} {sh : List Nat} {sp : List Rg} (L : Bse zs sh sp) (cs : List Int) (hs : List Str) : seD [linesD (landL zs sh sp), .tuple (cs.map .int), .tuple (hs.map .str)] = linesD (landL zs sh (gsp zs sp cs hs)) := by
  show linesD (reL (decA1 (linesD (landL zs sh sp))) (gsp (namesOf (decA1 (linesD (landL zs sh sp)))) (spans (decA1 (linesD (landL zs sh sp)))) (itemsD (.tuple (cs.map .int))) (decZ (.tuple (hs.map .str))))) = _
  rw [dec_A1, names_land L.nam, spans_land L, dec_C, dec_Z, re_land]
abbrev preSe (ds : List PyData) : Prop := ∃ (zs : List Str) (sh : List Nat) (sp : List Rg) (cs : List Int) (hs : List Str), ds = [linesD (landL zs sh sp), .tuple (cs.map .int), .tuple (hs.map .str)] ∧ Pg zs sh sp cs hs
theorem sc_lseen : FnScope ["_law_lines", "_law_numbers", "_law_names_here", "_law_found", "_law_tag", "_law_parent", "_law_span", "_law_number"] ["_law_lines", "_law_numbers", "_law_names_here"] (defScope s_lseen) := ⟨rfl, rfl, rfl, by decide +kernel, rfl, by decide +kernel, by decide +kernel⟩
theorem ok_lseen {f : Addr} {fd : FuncData} (F : Fun K "_law_seen" "_law_seen" s_lseen f fd) (sm : ∃ o, K.lookup sysModules = some o) (B : Gls mg) :
    FnG P w K mg base (L2.CX P w) 1 f fd ["_law_lines", "_law_numbers", "_law_names_here"] (spF 3 preSe fun ds => .ok (seD ds)) := by
  refine fn_data F sc_lseen sm (by decide) _ _ fun cdv A outer s H E Bs ds hl hp c ex => ?_
  obtain ⟨zs, sh, sp, cs, hs, rfl, p⟩ := hp
  rw [se_D p.bse]
  have nd := sc_lseen.nd
  have h5 := p.bse.five
  have hcl := p.len
  refine gs_cons ?_
  repeat infer_instance
  unfold linesD
  repeat infer_instance
  have ll : ((landL zs sh sp).map lineD).length = sh.length + 1 := by rw [List.length_map, land_len]
  have lc : (cs.map PyData.int).length = sh.length + 1 := by rw [List.length_map, hcl]
  rw [show min ((landL zs sh sp).map lineD).length (cs.map PyData.int).length = sh.length + 1 by omega]
  refine ⟨fun i Γ => ∃ (ad : Addr) (s4 s5 s6 s7 : Sl), Γ = [.d (linesD (landL zs sh sp)), .d (.tuple (cs.map .int)), .d (.tuple (hs.map .str)), .own ad (((List.range i).map (landAt zs sh (gsp zs sp cs hs))).map lineD), s4, s5, s6, s7], ⟨_, _, _, _, _, rfl⟩, fun _ _ _ _ => ⟨trivial, trivial⟩, ?_, ?_⟩
  · rintro i Γ hi ⟨ad, s4, s5, s6, s7, rfl⟩
    have hL : i < (landL zs sh sp).length := by rw [land_len]; exact hi
    have hcs : i < cs.length := by omega
    have e1 : Px.nth ((landL zs sh sp).map lineD) i = lineD (landAt zs sh sp i) := by
      rw [← land_at hL]
      exact nth_map hL
    have e2 : Px.nth (cs.map PyData.int) i = .int (gi cs i) := by
      rw [← gi_get hcs]
      exact nth_map hcs
    show GG _ _ _ (.tuple [Px.nth ((landL zs sh sp).map lineD) i, Px.nth (cs.map PyData.int) i]) _ _
    rw [e1, e2]
    rw [show lineD (landAt zs sh sp i) = .tuple [.str (zg zs i), .str (if i = 0 then Str.empty else zg zs (paS sh i)), .tuple [.int (gp sp i).1, .int (gp sp i).2]] from rfl]
    generalize hnm : (if i = 0 then Str.empty else zg zs (paS sh i)) = nm
    repeat infer_instance
    refine ggs_cons [.d (linesD (landL zs sh sp)), .d (.tuple (cs.map .int)), .d (.tuple (hs.map .str)), .own ad (((List.range i).map (landAt zs sh (gsp zs sp cs hs))).map lineD), .d (.str (zg zs i)), .d (.str nm), .d (.tuple [.int (gp sp i).1, .int (gp sp i).2]), s7] ?_ ?_ rfl
    · repeat infer_instance
    repeat infer_instance
    refine ⟨rfl, strs_plain _, ?_⟩
    rw [any_in]
    have eL : ∀ x : Rg, gp (gsp zs sp cs hs) i = x → ((List.range (i + 1)).map (landAt zs sh (gsp zs sp cs hs))).map lineD = ((List.range i).map (landAt zs sh (gsp zs sp cs hs))).map lineD ++ [.tuple [.str (zg zs i), .str nm, strD x]] := fun x hx => by
      rw [List.range_succ, List.map_append, List.map_append]
      rw [show List.map (landAt zs sh (gsp zs sp cs hs)) [i] = [(zg zs i, nm, x)] from by show [landAt zs sh (gsp zs sp cs hs) i] = _; unfold landAt; rw [hnm, hx]] <;> rfl
    have hg := gsp_at (sp := sp) (cs := cs) (hs := hs) (k := i) (show i < zs.length by rw [p.bse.nam]; exact hi)
    by_cases hm : zg zs i ∈ hs
    · rw [if_pos hm] at hg
      rw [decide_eq_true hm]
      repeat infer_instance
      refine ⟨Nat.lt_of_le_of_lt (show (((List.range i).map (landAt zs sh (gsp zs sp cs hs))).map lineD).length ≤ 1000 by rw [List.length_map, List.length_map, List.length_range]; omega) (by decide), ?_⟩
      repeat (with_reducible refine gs_nil ?_)
      refine ⟨ad, .d (.str (zg zs i)), .d (.str nm), .d (.tuple [.int (gp sp i).1, .int (gp sp i).2]), .d (.int (gi cs i)), ?_⟩
      rw [eL _ hg] <;> rfl
    · rw [if_neg hm] at hg
      rw [decide_eq_false hm]
      repeat infer_instance
      refine ⟨Nat.lt_of_le_of_lt (show (((List.range i).map (landAt zs sh (gsp zs sp cs hs))).map lineD).length ≤ 1000 by rw [List.length_map, List.length_map, List.length_range]; omega) (by decide), ?_⟩
      repeat (with_reducible refine gs_nil ?_)
      refine ⟨ad, .d (.str (zg zs i)), .d (.str nm), .d (.tuple [.int (gp sp i).1, .int (gp sp i).2]), .d (.int (gi cs i)), ?_⟩
      rw [eL _ hg] <;> rfl
  · rintro Γ ⟨ad, s4, s5, s6, s7, rfl⟩
    show Gs _ _ _ _ _
    refine gs_cons ?_
    repeat infer_instance
    exact rfl
end
end K13
namespace K13
open PySem PySem.Spec PyProof.Rows L2 Tc Px Py PtA PtB PtC PtD PtE
variable [Px.Fld]
local macro_rules | `(tactic| fail "x34Gs") => `(tactic| first
  | ((with_reducible show Gs _ _ (Stmt.If _ _ _ _ :: _) _ _); (with_reducible refine stop_in ?_))
  | ((with_reducible show Gs _ _ (Stmt.Assign _ _ _ :: _) _ _); (with_reducible refine stop_in ?_))
  | ((with_reducible show Gs _ _ (Stmt.For _ _ _ _ _ :: _) _ _); (with_reducible refine stop_in ?_))
  )
local macro_rules | `(tactic| fail "x34G10") => `(tactic| first
  | ((with_reducible show G1 _ _ (Stmt.Assign [Expr.Tuple [_, _] _ _] (Expr.Tuple [_, Expr.List [] _] _ _) _) _ _); (with_reducible apply par_no); (with_reducible assumption); (assumption); (eq_refl); (eq_refl); (eq_refl); (eq_refl); (eq_refl); (eq_refl); (eq_refl); (eq_refl); (exact star_cons rfl); (exact star_cons rfl))
  )
local macro_rules | `(tactic| fail "x34GE1") => `(tactic| first
  | ((with_reducible show GE _ _ (Expr.Call (Expr.Name "_law_counts" _) (_ :: _) [] _) _ _); (with_reducible apply ge_callRl); (case F => with_reducible assumption); (exact ⟨rfl, rfl, rfl, rfl, rfl⟩); (first | with_reducible assumption | exact Bod.toCxt (by with_reducible assumption)); (eq_refl); (eq_refl); (first | with_reducible assumption | exact Exc.none); rotate_left; (decide); (exact star_cons rfl); (eq_refl))
  )
local macro_rules | `(tactic| fail "x34GE") => `(tactic| first
  | ((with_reducible show GE _ _ (Expr.Compare _ [CmpOp.In] [Expr.Name "_law_names_here" _] _) _ _); (with_reducible apply ge_in false); (eq_refl))
  | ((with_reducible show GE _ _ (Expr.Call (Expr.Name "area_guess" _) _ _ _) _ _); (with_reducible refine stop_in ?_))
  | ((with_reducible show GE _ _ (Expr.Call (Expr.Name "is_safe_area" _) _ _ _) _ _); (with_reducible refine stop_in ?_))
  | ((with_reducible show GE _ _ (Expr.Call (Expr.Name "worked_out_areas" _) _ _ _) _ _); (with_reducible refine stop_in ?_))
  | ((with_reducible show GE _ _ (Expr.BinOp (Expr.List _ _) Operator.Mult _ _) _ _); (with_reducible refine ge_ofF ?_); (with_reducible refine gf_rep ?_))
  | ((with_reducible show GE _ _ (Expr.Call (Expr.Name "_law_counts" _) (_ :: _) [] _) _ _); fail "x34GE1")
  )
local macro_rules | `(tactic| fail "x34GF2") => `(tactic| first
  | ((with_reducible show GF _ _ (Expr.Call (Expr.Name "sorted" _) [_] _ _) _ _); (with_reducible apply gf_sortS); (eq_refl); (eq_refl); (exact Gls.sorted (by assumption)); rotate_left; (exact star_cons rfl))
  )
local macro_rules | `(tactic| infer_instance) => `(tactic| first
  | ((with_reducible show Gs _ _ _ _ _); fail "x34Gs")
  | ((with_reducible show G1 _ _ (Stmt.Assign [Expr.Tuple [_, _] _ _] (Expr.Tuple [_, Expr.List [] _] _ _) _) _ _); fail "x34G10")
  | ((with_reducible show GT _ _ (Expr.Compare _ [CmpOp.In] [Expr.Name "_law_names_here" _] _) _ _); (refine gt_in false (by with_unfolding_all rfl) ?_))
  | ((with_reducible show GQ _ _ false (Expr.Name "_law_names_here" _) _ _); (with_reducible refine gq_of ?_))
  | ((with_reducible show GE _ _ _ _ _); fail "x34GE")
  | ((with_reducible show GF _ _ (Expr.Call (Expr.Name "sorted" _) [_] _ _) _ _); fail "x34GF2")
  | ((with_reducible show GKs _ _ (_ :: _) _ _ _); (refine gks_cons ?_))
  | ((with_reducible show GKs _ _ [] _ _ _); (refine gks_nil ?_))
  )
theorem col_rg {zs : List Str} {sh : List Nat} {sp : List Rg} (L : Bse zs sh sp) {ms : List (List Int)} (hp : ms.Perm (allL sh sp)) {r : List Rg} (h : landR sh sp = some r) {k : Nat} (hk : k < sh.length + 1) (x : Int) : x ∈ colL ms k ↔ (gp r k).1 ≤ x ∧ x ≤ (gp r k).2 := by
  have q := land_tree L
  rw [h] at q
  rw [col_mem L hp hk, ← (q.2 k hk).2 x]
theorem col_lo {zs : List Str} {sh : List Nat} {sp : List Rg} (L : Bse zs sh sp) {ms : List (List Int)} (hp : ms.Perm (allL sh sp)) {r : List Rg} (h : landR sh sp = some r) {k : Nat} (hk : k < sh.length + 1) {m : Int} (hm : m ∈ colL ms k) (hy : ∀ y, y ∈ colL ms k → m ≤ y) : m = (gp r k).1 := by
  have h1 := (col_rg L hp h hk m).mp hm
  have h2 := hy (gp r k).1 ((col_rg L hp h hk _).mpr ⟨Int.le_refl _, by omega⟩)
  omega
theorem col_hi {zs : List Str} {sh : List Nat} {sp : List Rg} (L : Bse zs sh sp) {ms : List (List Int)} (hp : ms.Perm (allL sh sp)) {r : List Rg} (h : landR sh sp = some r) {k : Nat} (hk : k < sh.length + 1) {m : Int} (hm : m ∈ colL ms k) (hy : ∀ y, y ∈ colL ms k → y ≤ m) : m = (gp r k).2 := by
  have h1 := (col_rg L hp h hk m).mp hm
  have h2 := hy (gp r k).2 ((col_rg L hp h hk _).mpr ⟨by omega, Int.le_refl _⟩)
  omega
theorem rc_out {zs : List Str} {sh : List Nat} {sp : List Rg} (L : Bse zs sh sp) {o : Out} (hR : RCounts [.list (natsD sh), linesD (landL zs sh sp)] o) : ∃ mm : List (List Int), o = .ok (.list (mm.map tupD)) ∧ mm.Perm (allL sh sp) ∧ mm.Pairwise fun l m => TS.code 100 l ≤ TS.code 100 m := by
  obtain ⟨zs', sh', sp', mm, e, LA', eo, h1, h2⟩ := hR
  have e1 : sh = sh' := by
    have := congrArg decS (List.cons.inj e).1
    rwa [dec_S, dec_S] at this
  subst e1
  have e2 : sp = sp' := by
    have h3 : landL zs sh sp = landL zs' sh sp' := by
      have := congrArg decA1 (List.cons.inj (List.cons.inj e).2).1
      rwa [dec_A1, dec_A1] at this
    have := congrArg spans h3
    rwa [spans_land L, spans_land LA'.toBse] at this
  subst e2
  exact ⟨mm, eo, h1, h2⟩
theorem gn_menu : ∀ z ∈ menuL, GN 20 0 (.str z) := by decide +kernel
/-- the hidden names with one number among the first of the lines -/
def doneS (r : List Rg) (zs hs : List Str) (q : Nat) : List Str := ((List.range q).filter fun k => decide ((gp r k).1 = (gp r k).2) && decide (zg zs k ∈ hs)).map (zg zs)
def doneL (r : List Rg) (zs hs : List Str) (q : Nat) : List PyData := (doneS r zs hs q).map .str
theorem done_succ (r : List Rg) (zs hs : List Str) (q : Nat) : doneL r zs hs (q + 1) = doneL r zs hs q ++ (if (decide ((gp r q).1 = (gp r q).2) && decide (zg zs q ∈ hs)) = true then [.str (zg zs q)] else []) := by
  unfold doneL doneS
  rw [List.range_succ, List.filter_append, List.map_append, List.map_append]
  by_cases e : (decide ((gp r q).1 = (gp r q).2) && decide (zg zs q ∈ hs)) = true
  · rw [if_pos e, List.filter_cons_of_pos (p := fun k => decide ((gp r k).1 = (gp r k).2) && decide (zg zs k ∈ hs)) e] <;> rfl
  · rw [if_neg e, List.filter_cons_of_neg (p := fun k => decide ((gp r k).1 = (gp r k).2) && decide (zg zs k ∈ hs)) e] <;> rfl
theorem done_len (r : List Rg) (zs hs : List Str) (q : Nat) : (doneL r zs hs q).length ≤ q := by
  unfold doneL doneS
  rw [List.length_map, List.length_map]
  exact Nat.le_trans (List.length_filter_le _ _) (by rw [List.length_range]; omega)
theorem eq_cps {x y : Str} (h : x.cps.toList = y.cps.toList) : x = y := by
  cases x
  cases y
  exact congrArg Str.mk (Array.toList_inj.mp h)
theorem ups_of : ∀ {p : Str} {r : List Str}, risingS p r = true → (p :: r).Nodup → (∀ y ∈ r, p.cps.toList < y.cps.toList) ∧ Ups r
  | _, [], _, _ => ⟨fun _ h => (nomatch h), .nil⟩
  | p, x :: r, h, nd => by
    have h : (!ltCps x.cps.toList p.cps.toList && risingS x r) = true := h
    rw [Bool.and_eq_true, Bool.not_eq_true', ltCps_eq, decide_eq_false_iff_not] at h
    obtain ⟨n1, n2⟩ := List.nodup_cons.mp nd
    have px : p.cps.toList < x.cps.toList := Decidable.byContradiction fun hn => n1 (by
      rw [eq_cps (List.le_antisymm (List.not_lt.mp h.1) (List.not_lt.mp hn))]
      exact List.mem_cons_self)
    obtain ⟨i1, i2⟩ := ups_of h.2 n2
    refine ⟨fun y hy => ?_, List.pairwise_cons.mpr ⟨i1, i2⟩⟩
    rcases List.mem_cons.mp hy with rfl | hy
    · exact px
    · exact List.lt_trans px (i1 y hy)
theorem ups_sorted {ys : List Str} (h : sortedS ys = true) (nd : ys.Nodup) : Ups ys := by
  cases ys with
  | nil => exact .nil
  | cons p r =>
    obtain ⟨a, b⟩ := ups_of h nd
    exact List.pairwise_cons.mpr ⟨a, b⟩
theorem hid_of {zs ys hs : List Str} (nd : zs.Nodup) (pm : ys.Perm zs) (so : sortedS ys = true) (sb : hs.Sublist ys) : Hid zs hs := ⟨fun z hz => pm.mem_iff.mp (sb.subset hz), (ups_sorted so (pm.nodup_iff.mpr nd)).sublist sb⟩
/-- at most seven numbers each -/
theorem flat_7 {str : List Rg} {k : Nat} (h : (gp str k).2 ≤ (gp str k).1 + 6) : ∀ rows : List (List Int), (rows.flatMap (expL str k)).length ≤ 7 * rows.length
  | [] => Nat.zero_le _
  | r :: rows => by
    rw [List.flatMap_cons, List.length_append, List.length_cons]
    have := flat_7 h rows
    have : (expL str k r).length ≤ 7 := by
      unfold expL
      rw [List.length_map, List.length_range]
      omega
    omega
theorem rows_7 {str : List Rg} : ∀ {ks : List Nat} {rows : List (List Int)}, (∀ k ∈ ks, (gp str k).2 ≤ (gp str k).1 + 6) → (rowsL str ks rows).length ≤ 7 ^ ks.length * rows.length
  | [], rows, _ => by
    show rows.length ≤ 7 ^ 0 * rows.length
    omega
  | k :: ks, rows, h => by
    have h1 := rows_7 (ks := ks) (rows := rows.flatMap (expL str k)) fun q hq => h q (List.mem_cons_of_mem _ hq)
    have h2 := flat_7 (h k List.mem_cons_self) rows
    show (rowsL str ks (rows.flatMap (expL str k))).length ≤ 7 ^ (ks.length + 1) * rows.length
    refine Nat.le_trans h1 ?_
    rw [Nat.pow_succ, Nat.mul_assoc]
    exact Nat.mul_le_mul_left _ h2
theorem seen_wide {zs : List Str} {sh : List Nat} {sp : List Rg} {cs : List Int} {hs : List Str} (p : Pg zs sh sp cs hs) (h4 : sh.length ≤ 4) (nar : ∀ k, k < sh.length + 1 → (gp sp k).2 ≤ (gp sp k).1 + 6) : Wide zs sh (gsp zs sp cs hs) ∧ (allL sh (gsp zs sp cs hs)).length ≤ 20000 := by
  have lvle : (lvS sh).length ≤ 5 := by
    unfold lvS
    exact Nat.le_trans (List.length_filter_le _ _) (by rw [List.length_range]; omega)
  have few : ∀ i, (rowsL (gsp zs sp cs hs) ((lvS sh).take i) [[]]).length ≤ 20000 := fun i => by
    have h := rows_7 (str := gsp zs sp cs hs) (ks := (lvS sh).take i) (rows := [[]]) fun k hk => by
      have hk := (lv_mem.mp (List.mem_of_mem_take hk)).1
      rw [gsp_at (by rw [p.bse.nam]; exact hk)]
      split
      · exact nar k hk
      · show gi cs k ≤ gi cs k + 6
        omega
    have hl : ((lvS sh).take i).length ≤ 5 := by rw [List.length_take]; omega
    have h3 : 7 ^ ((lvS sh).take i).length ≤ 7 ^ 5 := Nat.pow_le_pow_right (by decide) hl
    exact Nat.le_trans h (Nat.le_trans (Nat.mul_le_mul_right _ h3) (by decide))
  refine ⟨⟨p.seen, few⟩, ?_⟩
  have h := few (lvS sh).length
  rw [List.take_length] at h
  unfold allL
  exact Nat.le_trans (List.length_filter_le _ _) (by rw [List.length_map]; exact h)
theorem good_wo {zs : List Str} {sh : List Nat} {sp : List Rg} {hs : List Str} {r : List Rg} (L : Bse zs sh sp) (h : Hid zs hs) : Good (.list [.tuple ((woL r zs hs).map .str), .tuple ((woL r zs hs).map .str)]) := by
  have h5 := L.five
  have hn := L.nam
  have few := h.few (by omega)
  have g1 : GN 600 1 (.tuple ((woL r zs hs).map .str)) := (gn_tup (n := 20) (k := 0) fun d hd => by
    obtain ⟨z, hz, rfl⟩ := List.mem_map.mp hd
    exact gn_menu _ (L.men _ (h.sub z (List.mem_filter.mp hz).1))).mono (show _ ≤ 600 by
      rw [List.length_map]
      have : (woL r zs hs).length ≤ hs.length := List.length_filter_le _ _
      omega) (by decide)
  exact good_two (g1.mono (by decide) (by decide))
theorem ups_uniq {xs ys : List Str} (p : xs.Perm ys) (h1 : Ups xs) (h2 : Ups ys) : xs = ys := List.Perm.eq_of_pairwise (le := fun a b : Str => a.cps.toList < b.cps.toList) (fun a b _ _ q1 q2 => absurd (List.lt_trans q1 q2) (List.lt_irrefl _)) h1 h2 p
theorem wo_done {zs : List Str} {hs ys : List Str} {r : List Rg} {n : Nat} (nd : zs.Nodup) (hn : zs.length = n) (h : Hid zs hs) (hr : ∀ k, k < n → (gp r k).1 ≤ (gp r k).2) (pm : ys.Perm (doneS r zs hs n)) (so : sortedS ys = true) : ys = woL r zs hs := by
  have nh : hs.Nodup := h.up.imp fun hab e => by
    subst e
    exact absurd hab (List.lt_irrefl _)
  have nd1 : (doneS r zs hs n).Nodup := by
    unfold doneS
    refine List.pairwise_map.mpr ((List.nodup_range.filter _).imp_of_mem fun {a b} ha hb hab e => hab ?_)
    have ha := List.mem_range.mp (List.mem_filter.mp ha).1
    have hb := List.mem_range.mp (List.mem_filter.mp hb).1
    have e := congrArg (nmIx zs) e
    rw [ix_nd nd (by omega), ix_nd nd (by omega)] at e
    exact e
  have nd2 : (woL r zs hs).Nodup := nh.filter _
  have p2 : (doneS r zs hs n).Perm (woL r zs hs) := (List.perm_ext_iff_of_nodup nd1 nd2).mpr fun z => by
    unfold doneS woL
    rw [List.mem_map, List.mem_filter]
    constructor
    · rintro ⟨k, hk, rfl⟩
      obtain ⟨h1, h2⟩ := List.mem_filter.mp hk
      have h1 := List.mem_range.mp h1
      rw [Bool.and_eq_true, decide_eq_true_eq, decide_eq_true_eq] at h2
      refine ⟨h2.2, ?_⟩
      unfold saB
      rw [ix_nd nd (by omega), decide_eq_true h2.2, decide_eq_true (show (gp r k).2 - (gp r k).1 < 1 by omega)] <;> rfl
    · rintro ⟨hz, hs2⟩
      obtain ⟨k, hk, e⟩ := List.getElem_of_mem (h.sub z hz)
      have e2 : z = zg zs k := by rw [zg_get hk, e]
      subst e2
      unfold saB at hs2
      rw [ix_nd nd hk, decide_eq_true hz, Bool.true_and, Bool.not_not, decide_eq_true_eq] at hs2
      have := hr k (by omega)
      exact ⟨k, List.mem_filter.mpr ⟨List.mem_range.mpr (by omega), by rw [Bool.and_eq_true, decide_eq_true_eq, decide_eq_true_eq]; exact ⟨by omega, hz⟩⟩, rfl⟩
  have pw := pm.trans p2
  exact ups_uniq pw (ups_sorted so (pw.nodup_iff.mpr nd2)) (h.up.filter _)
section
open LamX
variable {P : Program} {w : World} {K : PySem.W.Frag} {mg : Str → Option Value} {base : Heap}
abbrev preRight (ms ds : List PyData) : Prop := Jar ms ∧ ds = []
abbrev RRight (_ _ : List PyData) (o : Out) (ms' : List PyData) : Prop := Jar ms' ∧ o = .ok (.bool true)
abbrev FCnt (P : Program) (w : World) (K : PySem.W.Frag) (mg : Str → Option Value) (base : Heap) : Prop := Call P w K mg base (L2.CX P w) 3 "_law_counts" ["_law_shape", "_law_lines"] (spR 2 preCounts RCounts)
abbrev FTown (P : Program) (w : World) (K : PySem.W.Frag) (mg : Str → Option Value) (base : Heap) : Prop := Call P w K mg base (L2.CX P w) 4 "_law_town" ["_law_jar_here", "_law_most", "_law_room"] (spP 2 preTown RTown)
abbrev FSe (P : Program) (w : World) (K : PySem.W.Frag) (mg : Str → Option Value) (base : Heap) : Prop := Call P w K mg base (L2.CX P w) 1 "_law_seen" ["_law_lines", "_law_numbers", "_law_names_here"] (spF 3 preSe fun ds => .ok (seD ds))
theorem sc_lright : FnScope ["_law_jar_here", "_law_turn", "_law_shape", "_law_lines", "_law_numbers", "_law_line", "_law_made", "_law_tags_here", "_law_part", "_law_names_here", "_law_found", "_law_done", "_law_k", "_law_low", "_law_high", "_law_told", "_law_wide", "_law_due", "_law_tag", "_law_own"] ["_law_jar_here"] (defScope s_lright) := ⟨rfl, rfl, rfl, by decide +kernel, rfl, by decide +kernel, by decide +kernel⟩
theorem ok_lright {C : Addr} {T : List (Addr × Str)} (M : MakeD P w K mg base 5 "Areas" C 1 ["self", "lines"] preLines fun ds => .ok (areasF ds)) (F1 : FTown P w K mg base) (F2 : FCnt P w K mg base) (F3 : FSe P w K mg base) (F4 : FDraw P w K mg base) (F5 : FPick P w K mg base)
    (G1 : Call P w K mg base (L2.CX P w) 8 "area_guess" ["areas", "count", "hidden", "name"] (spU 4 (preAG C) (fun ds => .ok (agD ds)) T)) (G2 : CallR P w K mg base (L2.CX P w) 8 "area_guess" ["areas", "count", "hidden", "name"] (spU 4 (preAG C) (fun ds => .ok (agD ds)) T) ["name", "hidden", "count", "areas"])
    (G3 : Call P w K mg base (L2.CX P w) 8 "is_safe_area" ["areas", "count", "hidden", "name", "width"] (spU 5 (preIS C) (fun ds => .ok (isD2 ds)) T)) (G4 : CallR P w K mg base (L2.CX P w) 8 "is_safe_area" ["areas", "count", "hidden", "name", "width"] (spU 5 (preIS C) (fun ds => .ok (isD2 ds)) T) ["width", "name", "hidden", "count", "areas"])
    (G5 : Call P w K mg base (L2.CX P w) 8 "worked_out_areas" ["areas", "count", "hidden"] (spU 3 (prePg C) (fun ds => .ok (woD ds)) T)) (G6 : CallR P w K mg base (L2.CX P w) 8 "worked_out_areas" ["areas", "count", "hidden"] (spU 3 (prePg C) (fun ds => .ok (woD ds)) T) ["hidden", "count", "areas"])
    {f cc : Addr} {fd : FuncData} (F : Fun K "_law_right" "_law_right" s_lright f fd) (hcode : fd.code = .ref cc) (sm : ∃ o, K.lookup sysModules = some o) (B : Gls mg) :
    FnG P w K mg base (L2.CX P w) 9 f fd ["_law_jar_here"] (spT 0 preRight RRight T) := by
  refine fn_pailTC T F hcode sc_lright sm rfl _ _ fun A outer s H E Bs a ms ds hl hp hT hB c ex => ?_
  obtain ⟨hj, rfl⟩ := hp
  have nd := sc_lright.nd
  refine gs_cons ?_
  repeat infer_instance
  refine ⟨by decide, by decide, fun i Γ => ∃ (ms' : List PyData) (r : List Sl), Jar ms' ∧ r.length = 17 ∧ Γ = .own a ms' :: r ++ [.no, .no], ⟨ms, List.replicate 17 .no, hj, rfl, rfl⟩, fun _ _ _ _ => trivial, ?_, ?_⟩
  · clear hj
    rintro i Γ hi ⟨ms', r, hj, hr, rfl⟩
    obtain ⟨s1, s2, s3, s4, s5, s6, s7, s8, s9, s10, s11, s12, s13, s14, s15, s16, s17, rfl⟩ : ∃ s1 s2 s3 s4 s5 s6 s7 s8 s9 s10 s11 s12 s13 s14 s15 s16 s17, r = [s1, s2, s3, s4, s5, s6, s7, s8, s9, s10, s11, s12, s13, s14, s15, s16, s17] := by
      match r, hr with
      | [s1, s2, s3, s4, s5, s6, s7, s8, s9, s10, s11, s12, s13, s14, s15, s16, s17], _ => exact ⟨_, _, _, _, _, _, _, _, _, _, _, _, _, _, _, _, _, rfl⟩
    show GG _ _ _ (.int (0 + (i : Int))) [_, s1, s2, s3, s4, s5, s6, s7, s8, s9, s10, s11, s12, s13, s14, s15, s16, s17, .no, .no] _
    rw [Int.zero_add]
    repeat infer_instance
    unfold Stop
    refine gs_cons ?_
    repeat infer_instance
    refine ⟨⟨hj, rfl⟩, fun o m2 hR => ?_⟩
    clear hj
    obtain ⟨hj, zs, sh, sp, cs, eo, TW⟩ := hR
    subst eo
    refine to_ok ?_
    repeat infer_instance
    unfold Stop
    refine gs_cons ?_
    repeat infer_instance
    refine ⟨⟨landL zs sh sp, rfl, TW.bse.lines⟩, ?_⟩
    rw [areasF_eq]
    show GA _ _ _ _ _
    repeat infer_instance
    have h5 := TW.bse.five
    have hz := TW.bse.nam
    have ll : ((landL zs sh sp).map lineD).length = sh.length + 1 := by rw [List.length_map, land_len]
    ((with_reducible apply gf_lk); (eq_refl); (assumption); (eq_refl); (eq_refl); (eq_refl); (intro _; eq_refl))
    unfold linesD
    repeat infer_instance
    rw [ll]
    refine ⟨Nat.le_trans (show sh.length + 1 ≤ 1000 by omega) (by decide), fun _ => true, fun k => .str (zg zs k), fun k hk B' => ?_, ?_⟩
    · have hL : k < (landL zs sh sp).length := by rw [land_len]; exact hk
      have e1 : Px.nth ((landL zs sh sp).map lineD) k = lineD (landAt zs sh sp k) := by
        rw [← land_at hL]
        exact nth_map hL
      rw [e1]
      unfold lineD landAt
      repeat infer_instance
    rw [List.filter_eq_self.mpr (fun _ _ => rfl)]
    rw [show (List.range (sh.length + 1)).map (fun k => PyData.str (zg zs k)) = zs.map PyData.str from by
      refine List.ext_getElem (by rw [List.length_map, List.length_map, List.length_range, hz]) fun k h1 h2 => ?_
      rw [List.getElem_map, List.getElem_map, List.getElem_range, zg_get (by rw [List.length_map] at h2; exact h2)]]
    repeat infer_instance
    refine ⟨by omega, fun ys hpm hso => ?_⟩
    repeat infer_instance
    unfold Stop
    refine gs_cons ?_
    repeat infer_instance
    refine ⟨⟨hj, _, rfl, by decide, by decide⟩, fun o m3 hR => ?_⟩
    clear hj
    obtain ⟨hj, xs, x, e, eo, hx⟩ := hR
    cases e
    subst eo
    obtain ⟨p, rfl⟩ : ∃ v : Int, x = .int v := by
      simp only [List.mem_cons, List.not_mem_nil, or_false] at hx
      rcases hx with rfl | rfl | rfl | rfl <;> exact ⟨_, rfl⟩
    clear hx
    refine to_ok ?_
    repeat infer_instance
    unfold Stop
    refine gs_cons ?_
    repeat infer_instance
    (with_reducible apply gf_lcS)
    (eq_refl)
    (assumption)
    (eq_refl)
    (eq_refl)
    (eq_refl)
    (intro _; eq_refl)
    repeat infer_instance
    refine ⟨fun j acc Γ => ∃ (m4 : List PyData) (hs : List Str), Jar m4 ∧ acc = hs.map .str ∧ hs.Sublist (ys.take j) ∧ Γ = [.own a m4, .d (.int i), .d (.list (natsD sh)), .d (linesD (landL zs sh sp)), .d (.tuple (cs.map .int)), .no, .d (inst C (arF (landL zs sh sp))), .d (.list (ys.map .str)), .d (.int p), s9, s10, s11, s12, s13, s14, s15, s16, s17, .no, .no], ⟨m3, [], hj, rfl, List.nil_sublist _, rfl⟩, fun _ _ _ _ _ => trivial, ?_, ?_⟩
    · clear hj
      rintro j acc Γ hj1 ⟨m4, hs, hj, rfl, hsub, rfl⟩ B'
      have ly : (ys.map PyData.str).length = ys.length := List.length_map _
      have hj1 : j < ys.length := by rw [← ly]; exact hj1
      have en : Px.nth (ys.map PyData.str) j = .str ys[j] := nth_map hj1
      rw [en]
      have etk : ys.take (j + 1) = ys.take j ++ [ys[j]] := by rw [List.take_succ_eq_append_getElem hj1]
      repeat infer_instance
      refine ⟨⟨hj, _, rfl, by decide, by decide⟩, fun o m5 hR => ?_⟩
      clear hj
      obtain ⟨hj, _, r2, e, eo, r3, r4⟩ := hR
      cases e
      subst eo
      refine to_ok ?_
      repeat infer_instance
      by_cases hr : r2 < p
      · rw [decide_eq_true hr]
        repeat infer_instance
        have hl1 := hsub.length_le
        have hl2 := hpm.length_eq
        rw [List.length_take] at hl1
        exact ⟨Nat.lt_of_le_of_lt (show (hs.map PyData.str).length ≤ 1000 by rw [List.length_map]; omega) (by decide), m5, hs ++ [ys[j]], hj, by rw [List.map_append] <;> rfl, by rw [etk]; exact hsub.append (List.Sublist.refl _), rfl⟩
      · rw [decide_eq_false hr]
        repeat infer_instance
        exact ⟨m5, hs, hj, rfl, by rw [etk]; exact hsub.trans (List.sublist_append_left _ _), rfl⟩
    clear hj
    rintro acc Γ ⟨m4, hs, hj, rfl, hsub, rfl⟩
    repeat infer_instance
    unfold Stop
    have ly : (ys.map PyData.str).length = ys.length := List.length_map _
    rw [ly, List.take_length] at hsub
    have HD := hid_of TW.bse.dist.nd hpm hso hsub
    have PG : Pg zs sh sp cs hs := ⟨TW.bse, TW.cnt, HD⟩
    obtain ⟨WD, hfew⟩ := seen_wide PG TW.four TW.nar
    refine gs_cons ?_
    repeat infer_instance
    refine ⟨⟨zs, sh, sp, cs, hs, rfl, PG⟩, to_ok ?_⟩
    rw [se_D PG.bse]
    repeat infer_instance
    refine ⟨⟨zs, sh, _, rfl, WD⟩, fun o hR => ?_⟩
    obtain ⟨mm, eo, h1, h2⟩ := rc_out PG.seen hR
    subst eo
    refine to_ok ?_
    repeat infer_instance
    unfold Stop
    have hr : landR sh (gsp zs sp cs hs) = some (guL zs sh sp cs hs) := PG.tree
    have hne := some_ne PG.seen h1 hr
    have lmm : (mm.map tupD).length = mm.length := List.length_map _
    have hmm : mm.length ≤ 20000 := by rw [h1.length_eq]; exact hfew
    refine gs_cons ?_
    repeat infer_instance
    refine ⟨fun q Γ => ∃ (ad : Addr) (t5 t12 t13 t14 t15 t16 t17 : Sl), Γ = [.own a m4, .d (.int i), .d (.list (natsD sh)), .d (linesD (landL zs sh sp)), .d (.tuple (cs.map .int)), t5, .d (inst C (arF (landL zs sh sp))), .d (.list (ys.map .str)), .d (.int p), .d (.tuple (hs.map .str)), .d (.list (mm.map tupD)), .own ad (doneL (guL zs sh sp cs hs) zs hs q), t12, t13, t14, t15, t16, t17, .no, .no], ⟨_, _, _, _, _, _, _, _, rfl⟩, fun _ _ _ _ => trivial, ?_, ?_⟩
    · rintro q Γ hq ⟨ad, t5, t12, t13, t14, t15, t16, t17, rfl⟩
      have hq : q < sh.length + 1 := by rw [← ll]; exact hq
      have hL : q < (landL zs sh sp).length := by rw [land_len]; exact hq
      have e1 : Px.nth ((landL zs sh sp).map lineD) q = lineD (landAt zs sh sp q) := by
        rw [← land_at hL]
        exact nth_map hL
      show GG _ _ _ (.tuple [.int (q : Nat), Px.nth ((landL zs sh sp).map lineD) q]) _ _
      rw [e1]
      rw [show lineD (landAt zs sh sp q) = .tuple [.str (zg zs q), .str (if q = 0 then Str.empty else zg zs (paS sh q)), .tuple [.int (gp sp q).1, .int (gp sp q).2]] from rfl]
      repeat infer_instance
      unfold Stop
      refine gs_cons ?_
      repeat infer_instance
      have hcl0 : 0 < (colL mm q).length := by
        unfold colL
        rw [List.length_map]
        exact List.length_pos_iff.mpr hne
      ((with_reducible apply gf_lk); (eq_refl); (assumption); (eq_refl); (eq_refl); (eq_refl); (intro _; eq_refl))
      repeat infer_instance
      refine ⟨Nat.le_trans (show (mm.map tupD).length ≤ 20000 by omega) (by decide), fun _ => true, fun j => (fun c : List Int => PyData.int (gi c q)) (mm.getD j []), fun j hj2 B2 => ?_, ?_⟩
      · have hj2 : j < mm.length := by omega
        have eN : Px.nth (mm.map tupD) j = tupD mm[j] := nth_map hj2
        have eG : mm.getD j [] = mm[j] := getD_at hj2
        have hC := (all_iff PG.seen).mp (h1.mem_iff.mp (List.getElem_mem hj2))
        generalize mm[j] = c0 at eN eG hC
        obtain ⟨hcl, _⟩ := hC
        rw [eN]
        rw [show tupD c0 = .tuple (c0.map .int) from rfl]
        repeat infer_instance
        refine ⟨_, at_map (by omega), ?_⟩
        rw [gi_get (by omega)]
        exact ⟨by show PyData.int (gi c0 q) = PyData.int (gi (mm.getD j []) q); rw [eG], rfl⟩
      rw [lmm, fil_all [] mm (fun c : List Int => PyData.int (gi c q))]
      rw [show (mm.map fun c : List Int => PyData.int (gi c q)) = (colL mm q).map PyData.int from (List.map_map (f := fun c : List Int => gi c q)).symm]
      refine ⟨colL mm q, rfl, hcl0, fun lo hlo hlo2 => ?_⟩
      repeat infer_instance
      ((with_reducible apply gf_lk); (eq_refl); (assumption); (eq_refl); (eq_refl); (eq_refl); (intro _; eq_refl))
      repeat infer_instance
      refine ⟨Nat.le_trans (show (mm.map tupD).length ≤ 20000 by omega) (by decide), fun _ => true, fun j => (fun c : List Int => PyData.int (gi c q)) (mm.getD j []), fun j hj2 B2 => ?_, ?_⟩
      · have hj2 : j < mm.length := by omega
        have eN : Px.nth (mm.map tupD) j = tupD mm[j] := nth_map hj2
        have eG : mm.getD j [] = mm[j] := getD_at hj2
        have hC := (all_iff PG.seen).mp (h1.mem_iff.mp (List.getElem_mem hj2))
        generalize mm[j] = c0 at eN eG hC
        obtain ⟨hcl, _⟩ := hC
        rw [eN]
        rw [show tupD c0 = .tuple (c0.map .int) from rfl]
        repeat infer_instance
        refine ⟨_, at_map (by omega), ?_⟩
        rw [gi_get (by omega)]
        exact ⟨by show PyData.int (gi c0 q) = PyData.int (gi (mm.getD j []) q); rw [eG], rfl⟩
      rw [lmm, fil_all [] mm (fun c : List Int => PyData.int (gi c q))]
      rw [show (mm.map fun c : List Int => PyData.int (gi c q)) = (colL mm q).map PyData.int from (List.map_map (f := fun c : List Int => gi c q)).symm]
      refine ⟨colL mm q, .inl rfl, hcl0, fun hi hhi hhi2 => ?_⟩
      repeat infer_instance
      have e1 := col_lo PG.seen h1 hr hq hlo hlo2
      have e2 := col_hi PG.seen h1 hr hq hhi hhi2
      clear hlo hlo2 hhi hhi2
      subst e1 e2
      unfold Stop
      refine gs_cons ?_
      repeat infer_instance
      unfold Stop
      refine ge_callU ⟨rfl, rfl, rfl, rfl, rfl⟩ G1 hT hB c.toCxt (by decide) rfl ex ?_ (by decide) (star_cons rfl) rfl
      repeat infer_instance
      refine ⟨⟨zs, sh, sp, cs, hs, q, rfl, PG, hq⟩, to_ok ?_⟩
      rw [ag_D C PG.bse cs hs hq]
      repeat infer_instance
      unfold Stop
      refine ge_callUR ⟨rfl, rfl, rfl, rfl, rfl⟩ G2 hT hB c.toCxt (by decide) rfl ex ?_ (by decide) rfl rfl rfl rfl
      repeat infer_instance
      refine ⟨⟨zs, sh, sp, cs, hs, q, rfl, PG, hq⟩, to_ok ?_⟩
      rw [ag_D C PG.bse cs hs hq]
      repeat infer_instance
      refine ⟨(show 1 < sizeLine by decide), ?_⟩
      repeat infer_instance
      unfold Stop
      refine gs_cons ?_
      repeat infer_instance
      have gb := (land_rg PG.seen h1 hr).2 q hq
      have gd := good_two ((gn_span gb).mono (m := 1300) (l := 4) (by decide) (by decide))
      have hds := done_succ (guL zs sh sp cs hs) zs hs q
      have hdl := done_len (guL zs sh sp cs hs) zs hs q
      generalize hg : gp (guL zs sh sp cs hs) q = g at gb gd hds
      refine ⟨gd, ?_⟩
      repeat infer_instance
      refine ⟨gd, ?_⟩
      repeat infer_instance
      rw [List.singleton_append, eqv_str, show (List.replicate (Int.toNat 2) [PyData.tuple [PyData.int g.1, PyData.int g.2]]).flatten = [strD g, strD g] from rfl, decide_eq_true rfl, if_neg (by decide)]
      repeat (with_reducible refine gs_nil ?_)
      show Gs _ _ _ _ _
      refine gs_mid (fun Γ => ∃ (ad2 : Addr) (u15 u16 u17 : Sl), Γ = [.own a m4, .d (.int i), .d (.list (natsD sh)), .d (linesD (landL zs sh sp)), .d (.tuple (cs.map .int)), .d (.tuple [.str (zg zs q), .str (if q = 0 then Str.empty else zg zs (paS sh q)), .tuple [.int (gp sp q).1, .int (gp sp q).2]]), .d (inst C (arF (landL zs sh sp))), .d (.list (ys.map .str)), .d (.int p), .d (.tuple (hs.map .str)), .d (.list (mm.map tupD)), .own ad2 (doneL (guL zs sh sp cs hs) zs hs (q + 1)), .d (.int q), .d (.int g.1), .d (.int g.2), u15, u16, u17, .no, .no]) ?_ ?_
      · repeat infer_instance
        rw [show PyData.eqv (.int g.1) (.int g.2) = decide (g.1 = g.2) from eqv_int _ _]
        by_cases hgg : g.1 = g.2
        · rw [decide_eq_true hgg]
          repeat infer_instance
          refine ⟨rfl, strs_plain _, ?_⟩
          rw [any_in]
          by_cases hm : zg zs q ∈ hs
          · rw [decide_eq_true hgg, decide_eq_true hm, if_pos (by decide)] at hds
            rw [decide_eq_true hm]
            repeat infer_instance
            refine ⟨Nat.lt_of_le_of_lt (Nat.le_trans hdl (show q ≤ 1000 by omega)) (by decide), ?_⟩
            repeat (with_reducible refine gs_nil ?_)
            exact ⟨_, _, _, _, by rw [hds] <;> rfl⟩
          · rw [decide_eq_true hgg, decide_eq_false hm, if_neg (by decide), List.append_nil] at hds
            rw [decide_eq_false hm]
            repeat infer_instance
            repeat (with_reducible refine gs_nil ?_)
            exact ⟨_, _, _, _, by rw [hds] <;> rfl⟩
        · rw [decide_eq_false hgg, Bool.false_and, if_neg (by decide), List.append_nil] at hds
          rw [decide_eq_false hgg]
          repeat infer_instance
          repeat (with_reducible refine gs_nil ?_)
          exact ⟨_, _, _, _, by rw [hds] <;> rfl⟩
      rintro _ ⟨ad2, u15, u16, u17, rfl⟩
      refine gs_cons ?_
      repeat infer_instance
      refine ⟨by first | decide | (unfold CPow; decide), ?_⟩
      repeat infer_instance
      have hW : ∀ k, k < 4 → ∃ w : Int, Px.nth [PyData.int 1, PyData.int (if g.2 - g.1 > 1 then g.2 - g.1 else 1), PyData.int (g.2 - g.1 + 1), PyData.int (10 ^ (59 : Int).toNat)] k = .int w ∧ 1 ≤ w := fun k hk => by
        rcases (show k = 0 ∨ k = 1 ∨ k = 2 ∨ k = 3 by omega) with rfl | rfl | rfl | rfl
        · exact ⟨_, rfl, by decide⟩
        · exact ⟨_, rfl, by split <;> omega⟩
        · exact ⟨_, rfl, by omega⟩
        · exact ⟨_, rfl, by decide⟩
      refine ⟨fun _ Γ => ∃ (u15 u16 u17 : Sl), Γ = [.own a m4, .d (.int i), .d (.list (natsD sh)), .d (linesD (landL zs sh sp)), .d (.tuple (cs.map .int)), .d (.tuple [.str (zg zs q), .str (if q = 0 then Str.empty else zg zs (paS sh q)), .tuple [.int (gp sp q).1, .int (gp sp q).2]]), .d (inst C (arF (landL zs sh sp))), .d (.list (ys.map .str)), .d (.int p), .d (.tuple (hs.map .str)), .d (.list (mm.map tupD)), .own ad2 (doneL (guL zs sh sp cs hs) zs hs (q + 1)), .d (.int q), .d (.int g.1), .d (.int g.2), u15, u16, u17, .no, .no], ⟨_, _, _, rfl⟩, fun _ _ _ _ => trivial, ?_, ?_⟩
      · rintro k Γ hk ⟨u15, u16, u17, rfl⟩
        obtain ⟨w0, ew, hw⟩ := hW k hk
        rw [ew]
        repeat infer_instance
        have eS : saB (guL zs sh sp cs hs) zs hs (zg zs q) w0 = (decide (zg zs q ∈ hs) && !decide (g.2 - g.1 < w0)) := by
          unfold saB
          rw [ix_nd TW.bse.dist.nd (by rw [TW.bse.nam]; exact hq), hg]
        unfold Stop
        refine gs_mid (fun Γ => ∃ u15 : Sl, Γ = [.own a m4, .d (.int i), .d (.list (natsD sh)), .d (linesD (landL zs sh sp)), .d (.tuple (cs.map .int)), .d (.tuple [.str (zg zs q), .str (if q = 0 then Str.empty else zg zs (paS sh q)), .tuple [.int (gp sp q).1, .int (gp sp q).2]]), .d (inst C (arF (landL zs sh sp))), .d (.list (ys.map .str)), .d (.int p), .d (.tuple (hs.map .str)), .d (.list (mm.map tupD)), .own ad2 (doneL (guL zs sh sp cs hs) zs hs (q + 1)), .d (.int q), .d (.int g.1), .d (.int g.2), u15, .d (.int w0), .d (.bool (saB (guL zs sh sp cs hs) zs hs (zg zs q) w0)), .no, .no]) ?_ ?_
        · repeat infer_instance
          refine ⟨rfl, strs_plain _, ?_⟩
          rw [any_in]
          by_cases hm : zg zs q ∈ hs
          · rw [decide_eq_true hm, Bool.true_and] at eS
            rw [decide_eq_true hm]
            repeat infer_instance
            have eD : (!decide (g.2 - g.1 < w0)) = decide (g.2 - g.1 ≥ w0) := by
              by_cases h : g.2 - g.1 < w0
              · rw [decide_eq_true h, decide_eq_false (show ¬ g.2 - g.1 ≥ w0 by omega)] <;> rfl
              · rw [decide_eq_false h, decide_eq_true (show g.2 - g.1 ≥ w0 by omega)] <;> rfl
            exact ⟨u15, by rw [eS, eD] <;> rfl⟩
          · rw [decide_eq_false hm, Bool.false_and] at eS
            rw [decide_eq_false hm]
            repeat infer_instance
            exact ⟨u15, by rw [eS] <;> rfl⟩
        rintro _ ⟨u15, rfl⟩
        clear eS
        generalize hsb : saB (guL zs sh sp cs hs) zs hs (zg zs q) w0 = b
        refine gs_cons ?_
        repeat infer_instance
        unfold Stop
        refine ge_callU ⟨rfl, rfl, rfl, rfl, rfl⟩ G3 hT hB c.toCxt (by decide) rfl ex ?_ (by decide) (star_cons rfl) rfl
        repeat infer_instance
        refine ⟨⟨zs, sh, sp, cs, hs, q, w0, rfl, PG, hq, hw⟩, to_ok ?_⟩
        rw [is_D2 C PG.bse cs hs, hsb]
        repeat infer_instance
        unfold Stop
        refine ge_callUR ⟨rfl, rfl, rfl, rfl, rfl⟩ G4 hT hB c.toCxt (by decide) rfl ex ?_ (by decide) rfl rfl rfl rfl
        repeat infer_instance
        refine ⟨⟨zs, sh, sp, cs, hs, q, w0, rfl, PG, hq, hw⟩, to_ok ?_⟩
        rw [is_D2 C PG.bse cs hs, hsb]
        repeat infer_instance
        refine ⟨(show 1 < sizeLine by decide), ?_⟩
        repeat infer_instance
        unfold Stop
        refine gs_cons ?_
        repeat infer_instance
        have gd : Good (.list [.bool b, .bool b]) := by cases b <;> decide +kernel
        refine ⟨gd, ?_⟩
        repeat infer_instance
        refine ⟨gd, ?_⟩
        repeat infer_instance
        rw [List.singleton_append, eqv_str, decide_eq_true rfl, if_neg (by decide)]
        repeat (with_reducible refine gs_nil ?_)
        exact ⟨_, _, _, rfl⟩
      · rintro Γ ⟨u15, u16, u17, rfl⟩
        repeat (with_reducible refine gs_nil ?_)
        exact ⟨_, _, _, _, _, _, _, _, rfl⟩
    · rintro Γ ⟨ad, t5, t12, t13, t14, t15, t16, t17, rfl⟩
      repeat infer_instance
      unfold Stop
      refine gs_cons ?_
      repeat infer_instance
      unfold Stop
      refine ge_callU ⟨rfl, rfl, rfl, rfl, rfl⟩ G5 hT hB c.toCxt (by decide) rfl ex ?_ (by decide) (star_cons rfl) rfl
      repeat infer_instance
      refine ⟨⟨zs, sh, sp, cs, hs, rfl, PG⟩, to_ok ?_⟩
      rw [wo_D C PG.bse]
      repeat infer_instance
      unfold Stop
      refine ge_callUR ⟨rfl, rfl, rfl, rfl, rfl⟩ G6 hT hB c.toCxt (by decide) rfl ex ?_ (by decide) rfl rfl rfl rfl
      repeat infer_instance
      refine ⟨⟨zs, sh, sp, cs, hs, rfl, PG⟩, to_ok ?_⟩
      rw [wo_D C PG.bse]
      repeat infer_instance
      refine ⟨(show 1 < sizeLine by decide), ?_⟩
      repeat infer_instance
      unfold Stop
      refine gs_cons ?_
      repeat infer_instance
      have gd := good_wo (r := guL zs sh sp cs hs) TW.bse HD
      refine ⟨gd, ?_⟩
      repeat infer_instance
      rw [ll]
      have hdl := done_len (guL zs sh sp cs hs) zs hs (sh.length + 1)
      unfold doneL at hdl
      rw [List.length_map] at hdl
      refine ⟨by omega, fun yz pm2 so2 => ?_⟩
      obtain rfl := wo_done TW.bse.dist.nd hz HD (fun k hk => ((land_rg PG.seen h1 hr).2 k hk).2.1) pm2 so2
      repeat infer_instance
      refine ⟨gd, ?_⟩
      repeat infer_instance
      rw [List.singleton_append, eqv_str, show (List.replicate (Int.toNat 2) [PyData.tuple ((woL (guL zs sh sp cs hs) zs hs).map .str)]).flatten = [.tuple ((woL (guL zs sh sp cs hs) zs hs).map .str), .tuple ((woL (guL zs sh sp cs hs) zs hs).map .str)] from rfl, decide_eq_true rfl, if_neg (by decide)]
      repeat (with_reducible refine gs_nil ?_)
      exact ⟨m4, [_, _, _, _, _, _, _, _, _, _, _, _, _, _, _, _, _], hj, rfl, rfl⟩
  · rintro Γ ⟨ms', r, hj, hr, rfl⟩
    show Gs _ _ _ _ _
    refine gs_cons ?_
    repeat infer_instance
    exact ⟨hj, rfl⟩
end
end K13
namespace K13
open PySem PySem.Spec PyProof.Rows L2 Tc Px Py Evl
open LamX (Tabs TabB ExtN TabS)
def spLaw (K : PySem.W.Frag) (T : List (Addr × Str)) : Sp := fun vs H Q _ => ∃ (a : Addr) (ns : List Int), vs = [.ref a] ∧ SqL K H a (ns.map V.int) ∧ ns.length ≤ 63 ∧ Tabs T H ∧ ∀ H', Q (.bl true) H'
variable [Px.Fld]
def JarA (H : Hp) (a : Addr) : Prop := ∃ d x c : Int, H a = some (.lst [.int d, .int x, .int c]) ∧ 0 ≤ d ∧ 0 ≤ x
theorem mem_of_cut {ns : List Int} {lo hi : Option Int} {i : Nat} {y : V} (h : (cutV (ns.map V.int) lo hi)[i]? = some y) : ∃ z, y = V.int z := by
  have m : y ∈ cutV (ns.map V.int) lo hi := List.mem_of_getElem? h
  have m2 := List.mem_of_mem_drop (List.mem_of_mem_take m)
  obtain ⟨z, _, e⟩ := List.mem_map.mp m2
  exact ⟨z, e.symm⟩
theorem emod_ge {a b : Int} (h : 0 < b) : 0 ≤ a % b := Int.emod_nonneg a (by omega)
section
variable {P : Program} {w : World} {K : PySem.W.Frag} {mg : Str → Option Value} {base : Heap}
theorem scJar : FnScope ["_law_script", "_law_k", "_law_seed", "_law_cell", "_law_digits"] ["_law_script", "_law_k"] (defScope s_ljar) :=
  ⟨rfl, rfl, rfl, by decide +kernel, rfl, by decide +kernel, by decide +kernel⟩
theorem gJar_int : (defScope s_ljar).names.lookup ("int" : Str) = some .globalImplicit := by decide +kernel
theorem gJar_len : (defScope s_ljar).names.lookup ("len" : Str) = some .globalImplicit := by decide +kernel
theorem gJar_abs : (defScope s_ljar).names.lookup ("abs" : Str) = some .globalImplicit := by decide +kernel
/-- the jar of a script -/
def spJar (K : PySem.W.Frag) : Sp := fun vs H Q _ => ∃ (a : Addr) (ns : List Int) (k : Nat), vs = [.ref a, .int k] ∧ k < 2 ∧ SqL K H a (ns.map V.int) ∧ ns.length ≤ 63 ∧
  ∀ (H' : Hp) (p : Addr), H p = none → Same H H' → JarA H' p → Q (.ref p) H'
theorem ok_jar {f : Addr} {fd : FuncData} (F : Fun K "_law_jar" "_law_jar" s_ljar f fd) (T : Gls mg) :
    FnOk P w K mg base CX0 1 f fd ["_law_script", "_law_k"] (spJar K) := by
  refine F.ok scJar (fun vs H Q E h => ?_) (fun cdv A outer s H vs Q E hr h => ?_)
  · obtain ⟨a, ns, k, rfl, _⟩ := h
    rfl
  · obtain ⟨a, ns, k, rfl, hk, hS, hlen, hQ⟩ := h
    refine ⟨_, pss_cons (ps_set (i := 2) scJar.nd rfl (.inl rfl) (pe_op op_add (pe_op op_mul pe_int (pv 1)) pe_int))
      (pss_cons (ps_for PassesOwn.never rfl (pi_list (pe_slice sl_list (pv 0) po_none (po_some pe_int))) (pg_name (i := 3) scJar.nd rfl (.inl rfl))
        (pss_one (ps_set (i := 2) scJar.nd rfl (.inl rfl) (pe_op op_mod (pe_callTy call_int1 gJar_int T.int (by decide +kernel)
          (pa_cons (pe_op op_add (pe_op op_mul (pv 2) pe_int) (pe_callTy call_int1 gJar_int T.int (by decide +kernel) (pa_cons (pv 3) pa_nil))) pa_nil)) pe_int))))
      (pss_mid (ps_set (i := 3) scJar.nd rfl (.inl rfl) (pe_ifExp (pt_cmpR op_lt (pv 1) (pe_callB call_len gJar_len T.len (by decide +kernel) (pa_cons (pv 0) pa_nil)) (nomark _))
        (pe_callTy call_int1 gJar_int T.int (by decide +kernel) (pa_cons (pe_ix ix_list (pv 0) (pv 1) (fun _ _ => rfl)) pa_nil)) (pv 2)))
      (pss_mid (ps_set (i := 4) scJar.nd rfl (.inl rfl) (pe_ifExp (PW.pt (pw_or (pt_cmpR op_lt (pv 3) pe_int (nomark _)) (pw_or1 (pt_cmpR op_ge (pv 3) (pe_op op_pow pe_int pe_int) (nomark _)))))
        (pe_callB call_abs gJar_abs T.abs (by decide +kernel) (pa_cons (pv 3) pa_nil)) pe_int))
      (pss_one (ps_ret (pe_lst (pa_cons (pv 4) (pa_cons (pe_op op_mod (pe_callTy call_int1 gJar_int T.int (by decide +kernel)
        (pa_cons (pe_op op_add (pe_op op_add (pv 2) (pe_op op_mul (pv 3) pe_int)) pe_int) pa_nil)) pe_int) (pa_cons pe_int pa_nil))))))))), ?_⟩
    -- seed = 90173 * k + 211
    refine ⟨_, rfl, _, _, rfl, rfl, .inl ⟨by decide, by decide⟩, _, _, rfl, rfl, ?_⟩
    -- for cell in script[:12]
    refine ⟨_, rfl, _, rfl, a, _, rfl, hS, fun p hp => ?_⟩
    have s0 : Same H (upd H p (.lst (cutV (ns.map V.int) none (some 12)))) := fun b o e => by
      rw [upd_ne (ne_of_none e hp)]
      exact e
    refine ⟨p, rfl, ⟨_, .inl (.inl upd_same)⟩, for_list (K := K) (a := p) (xs := cutV (ns.map V.int) none (some 12))
      (fun _ σ H2 => ∃ (seed : Int) (v : Option V), σ = [some (.ref a), some (.int k), some (.int seed), v, none] ∧
        Same (upd H p (.lst (cutV (ns.map V.int) none (some 12)))) H2 ∧ 0 ≤ seed)
      ⟨_, none, rfl, Same.refl _, by omega⟩ (fun _ _ _ _ ⟨_, _, _, s2, _⟩ => .inl (.inl (s2 _ _ upd_same))) ?_ ?_⟩
    · rintro i y σ H2 hi ⟨seed, v, rfl, s2, h0⟩
      obtain ⟨z, rfl⟩ := mem_of_cut hi
      refine ⟨_, rfl, _, _, rfl, rfl, .inr ⟨by decide, by decide⟩, _, rfl, .inl ⟨_, rfl, _, _, rfl, rfl, .inl ⟨_, rfl, _, _, rfl, rfl, ?_, ?_⟩⟩⟩
      · show (0 : Int) < 2147483587
        decide
      · exact ⟨_, _, rfl, s2, emod_ge (by decide)⟩
    · rintro σ H2 ⟨seed, v, rfl, s2, h0⟩
      have s3 : Same H H2 := s0.trans s2
      -- cell = int(script[k]) if k < len(script) else seed
      refine ⟨fun σ' H' => H' = H2 ∧ ∃ z : Int, σ' = [some (.ref a), some (.int k), some (.int seed), some (.int z), none], ?_, ?_⟩
      · refine ⟨_, rfl, _, rfl, _, _, rfl, .inl ⟨_, s3.seq hS, rfl⟩, _, _, rfl, rfl, _, rfl, ?_⟩
        refine ite2 (fun hc => ?_) (fun _ => ⟨_, rfl, rfl, _, rfl⟩)
        rw [List.length_map] at hc
        have hk2 : k < ns.length := by have := of_decide_eq_true hc; omega
        have hat : atI (ns.map V.int) (k : Int) = some (V.int ns[k]) := atI_nat (by simp [hk2])
        exact ⟨_, rfl, _, rfl, a, _, _, _, rfl, rfl, s3.seq hS, hat, .inl ⟨_, rfl, rfl, _, rfl⟩⟩
      rintro σ' H' ⟨rfl, z, rfl⟩
      -- digits = abs(cell) if cell < 0 or cell >= 10 ** 18 else 0
      refine ⟨fun σ' H3 => H3 = H' ∧ ∃ d : Int, 0 ≤ d ∧ σ' = [some (.ref a), some (.int k), some (.int seed), some (.int z), some (.int d)], ?_, ?_⟩
      · have absd : ∀ z : Int, 0 ≤ (if z < 0 then -z else z) := fun z => by split <;> omega
        refine ⟨_, rfl, _, _, rfl, rfl, _, rfl, ?_⟩
        refine ite2 (fun _ => ?_) (fun _ => ?_)
        · exact ⟨_, rfl, _, rfl, rfl, _, absd _, rfl⟩
        · refine ⟨_, rfl, _, _, rfl, rfl, ⟨by decide, by decide, by decide⟩, _, _, rfl, rfl, _, rfl, ?_⟩
          refine ite2 (fun _ => ?_) (fun _ => ?_)
          · exact ⟨_, rfl, _, rfl, rfl, _, absd _, rfl⟩
          · exact ⟨rfl, 0, by decide, rfl⟩
      rintro σ' H3 ⟨rfl, d, hd, rfl⟩
      -- return [digits, int(seed + cell * 39373 + 17) % 2147483629, 0]
      refine ⟨_, rfl, _, rfl, _, rfl, _, _, rfl, rfl, .inr ⟨by decide, by decide⟩, _, _, rfl, rfl, _, _, rfl, rfl, .inl ⟨_, rfl, _, _, rfl, rfl, ?_, ?_⟩⟩
      · show (0 : Int) < 2147483629
        decide
      · refine ⟨by show 3 ≤ sizeLine; decide, fun p2 hp2 => ?_⟩
        refine hQ _ p2 (s3.free hp2) (fun b o e => ?_) ⟨_, _, _, upd_same, hd, emod_ge (by decide)⟩
        rw [upd_ne (ne_of_none (s3 b o e) hp2)]
        exact s3 b o e
theorem sc_law : FnScope ["_law_script", "_law_k"] ["_law_script"] (defScope s_law) := ⟨rfl, rfl, rfl, by decide +kernel, rfl, by decide +kernel, by decide +kernel⟩
theorem g_law : ∀ x ∈ (["range", "_law_right", "_law_jar"] : List Str), (defScope s_law).names.lookup x = some .globalImplicit := by decide +kernel
theorem sq_ext {H H' : Hp} {a : Addr} {xs : List V} (x : ExtN H H') (h : SqL K H a xs) : SqL K H' a xs := by
  rcases h with (h | ⟨o, h⟩) | h
  · exact .inl (.inl (x _ _ h (fun _ z => nomatch z)))
  · exact .inl (.inr ⟨o, x _ _ h (fun _ z => nomatch z)⟩)
  · exact .inr h
theorem passF {X : Cx} : Passes (L2.CX X.prog X.w) X (fun _ _ _ => False) := fun pins σ => pass_never (σ := σ) pins
theorem ok_law {f : Addr} {fd : FuncData} {T : List (Addr × Str)} (F : Fun K "law" "law" s_law f fd) (B : Gls mg)
    (DJ : Call P w K mg base CX0 1 "_law_jar" ["_law_script", "_law_k"] (spJar K)) (DR : Call P w K mg base (L2.CX P w) 9 "_law_right" ["_law_jar_here"] (spT 0 preRight RRight T)) :
    FnG P w K mg base CX0 10 f fd ["_law_script"] (spLaw K T) := by
  refine Fun.okG F sc_law (fun vs H Q E h => ?_) (fun cdv A outer s H vs Q E hr hgd h => ?_)
  · obtain ⟨a, ns, rfl, _⟩ := h
    rfl
  · obtain ⟨a, ns, rfl, hS, hl, hT, hQ⟩ := h
    refine ⟨_, pss_cons (ps_for PassesOwn.leaving rfl (pi_range1 (g_law _ (.head _)) B.range (pa_cons pe_int pa_nil)) (pg_name (i := 1) sc_law.nd rfl (.inl rfl))
      (pss_one (ps_if (pt_not (pt_val (pe_do DR (hr.mono (by decide)) hgd (g_law _ (.tail _ (.head _))) passF
        (pa_cons (pe_do DJ (hr.mono (by decide)) hgd (g_law _ (.tail _ (.tail _ (.head _)))) pass0 (pa_cons (pv 0) (pa_cons (pv 1) pa_nil))) pa_nil)))) (pss_one (ps_ret pe_bl)) pss_nil)))
      (pss_one (ps_ret pe_bl)), ?_⟩
    refine s_forR1 (n := 2) (ea_cons ev_c ea_nil) (by decide) (fun _ σ H' => (ExtN H H' ∧ Tabs T H') ∧ ∃ k : Option V, σ = [some (.ref a), k]) (fun H1 e => ⟨⟨ExtN.of e, hT.ext e⟩, none, rfl⟩) ?_ (fun σ' H' _ => hQ H')
    rintro i σ H1 hi ⟨⟨x, t⟩, k, rfl⟩
    refine ⟨_, rfl, _, rfl, a, ns, i, rfl, by omega, sq_ext x hS, hl, fun H2 p hp s2 hj => ?_⟩
    obtain ⟨d, y, cc, hj, hd, hy⟩ := hj
    refine ⟨fun _ => none, p, _, [], [.int d, .int y, .int cc], [], rfl, fun _ _ z => (nomatch z), rfl, hj, .cons (.int _) (.cons (.int _) (.cons (.int _) .nil)), .nil, rfl, ⟨⟨d, y, cc, rfl, hd, hy⟩, rfl⟩, ⟨t.ext s2, fun _ _ => rfl⟩, fun o ms' r v' Hs' H4 pv' k4 _ _ t4 _ _ => ?_⟩
    obtain ⟨_, rfl⟩ := r
    intro dv
    cases dv
    have nt : ∀ {c : Addr} {o : HO}, H2 c = some o → (∀ ps, o ≠ .tbl ps) → ∀ p ∈ T, c ≠ p.1 := fun {c o} e n p hp z => by
      obtain ⟨ps, h1, _⟩ := t.ext s2 p hp
      rw [z, h1] at e
      exact n ps (Option.some.inj e).symm
    refine ⟨_, rfl, iteF ⟨⟨?_, t4.1⟩, _, rfl⟩⟩
    exact fun c o e nt' => k4 c o (s2 _ _ (x c o e nt')) (ne_of_none (x c o e nt') hp) (nt (s2 _ _ (x c o e nt')) nt')
end
end K13
namespace K13
open PySem PySem.Spec PyProof.Rows L2 Tc Px Py
open LamX (Tabs TabB ExtN TabS)
theorem allB {α : Type} {l : List α} {p : α → Bool} (h : l.all p = true) {x : α} (hx : x ∈ l) : p x = true := List.all_eq_true.mp h x hx
/-- the name of a lambda of the def -/
def lamN (x : Str) (st : Stmt) : Str := (envOfC x (defScope st) 0 0 (.ref 0)).qual ++ "<lambda>"
def tabL (K : PySem.W.Frag) : List (Addr × Str) := [((He.cT K ("need_areas_named", none)).2, lamN "need_areas_named" s_need_areas_named)]
section
variable {K : PySem.W.Frag} {h : Heap} {mg : Str → Option Value}
structure Parts (K : PySem.W.Frag) : Prop where
  funs' : ∀ x ∈ funs, (He.Fa.glo x).ok K = true
  free : ∀ x ∈ frees, (He.Fa.free x).ok K = true
  nums' : ∀ e ∈ nums, (He.Fa.int e.1 e.2).ok K = true
  vg : (He.Fa.glo "Areas").ok K = true
  mkk : mkB K "Areas" = true
  ins : insB K "Areas" = true
  len : lenB K "Areas" = true
  na : ∀ f ∈ fields, NoAttr K (He.ga K "Areas") f
  pr : ∀ p ∈ props, propB K "Areas" p.1 = true
  sm : (K.lookup sysModules).isSome = true
theorem partsF (c : SaysC F fn K) : Parts K := by
  obtain ⟨z1, z⟩ := He.ba c.fact
  obtain ⟨z2, z⟩ := He.ba z
  obtain ⟨z3, z⟩ := He.ba z
  obtain ⟨z4, z⟩ := He.ba z
  obtain ⟨z7, z⟩ := He.ba z
  obtain ⟨z8, z9⟩ := He.ba z
  obtain ⟨z4, z5⟩ := He.ba z4
  obtain ⟨z5, z6⟩ := He.ba z5
  obtain ⟨z6, z6'⟩ := He.ba z6
  exact ⟨fun x hx => allB z1 hx, fun x hx => allB z2 hx, fun e he => allB z3 he, z4, z5, z6, z6', fun f hf => He.noat_ok (allB z7 hf), fun p hp => allB z8 hp, z9⟩
theorem kls_of (c : Parts K) : KlsD K (He.ga K "Areas") := by
  obtain ⟨z1, z⟩ := He.ba c.ins
  obtain ⟨z2, z⟩ := He.ba z
  obtain ⟨z3, z⟩ := He.ba z
  obtain ⟨z4, z⟩ := He.ba z
  obtain ⟨z5, z⟩ := He.ba z
  obtain ⟨z6, z7⟩ := He.ba z
  exact ⟨⟨mkB_cls c.mkk, He.eqO_ok z1, He.eqO_ok z2, of_decide_eq_true z3, of_decide_eq_true z4, of_decide_eq_true z5⟩, z6, of_decide_eq_true z7⟩
end
section
variable {P : Program} {w : World} {K : PySem.W.Frag} {h base : Heap} {mg : Str → Option Value} {f : Addr}
theorem prop_of {j : Nat} {n fld : Str} (s : SaysC F fn K) (c : Parts K) {st : Stmt} {q : Str} (i : Nat) (hi : fn[i]? = some ⟨.prop "Areas" n, n, q, st⟩) (hn : propB K "Areas" n = true) (S : FnScope ["self"] ["self"] (defScope st)) {p1 p2 p3 : Pos} (hb : defBody st = [.Return (some (.Attribute (.Name "self" p1) fld p2)) p3]) (no : NoAttr K (He.ga K "Areas") fld) (bd : ∀ (kV doc pm : Value) (an : Option Addr) (cdv ct : Value) (us : List Value), us.length = 1 → bindArgs (PySem.W.fnOf n q (defArgs st) (defBody st) (defScope st) .none kV doc pm an cdv ct) ⟨us, []⟩ = pure ((["self"] : List Str).zip us)) : PropD P w K mg base (He.ga K "Areas") n fld (j + 1) := by
  obtain ⟨fd, Fx⟩ := s.fun_ i hi
  have bb := Fx.binds (ps := ["self"]) bd
  obtain ⟨oc, od, kV, doc, pm, an, cdv, ct, osl, e, lk, hcd⟩ := id Fx.ex
  subst e
  exact ⟨⟨_, _, _, propB_ok hn, fn_getter lk hcd S rfl hb (mkB_cls c.mkk) no, bb⟩, mkB_cls c.mkk⟩
end
section
variable {P : Program} {w : World} {K : PySem.W.Frag} {h base : Heap} {mg : Str → Option Value} {f : Addr}
theorem code_at {x qual : Str} {st : Stmt} {fd : FuncData} {p : Str × Option Str} {f : Addr} (F : Fun K x qual st f fd) (e : f = He.fAd K p) : ∃ c, fd.code = .ref c ∧ (He.cT K p).1 = c := by
  subst e
  obtain ⟨oc, od, kV, doc, pm, an, cdv, ct, osl, rfl, lk, hcd⟩ := F.ex
  obtain ⟨c, rfl⟩ := He.codeIn_ref hcd
  exact ⟨c, rfl, He.codeOf_eq lk rfl⟩
theorem code_of {x qual : Str} {st : Stmt} {fd : FuncData} {f : Addr} (F : Fun K x qual st f fd) : ∃ c, fd.code = .ref c := by
  obtain ⟨oc, od, kV, doc, pm, an, cdv, ct, osl, rfl, lk, hcd⟩ := F.ex
  obtain ⟨c, rfl⟩ := He.codeIn_ref hcd
  exact ⟨c, rfl⟩
theorem facts (X : K.In h) (G : h.Ns mainGlobals mg) (hfa : mg ("law" : Str) = some (.ref f)) (s : SaysC F fn K) :
    ∃ fd : FuncData, (∀ (s : Shared) (v : Value), BindsTo s fd ⟨[v], []⟩ [("_law_script", v)]) ∧
      ∀ base : Heap, K.In base → base.Ns mainGlobals mg → (∀ p ∈ tf.map (He.cT K), TabB base mg p.1 p.2) → FnG P w K mg base CX0 10 f fd ["_law_script"] (spLaw K (tabL K)) := by
  letI : Px.Fld := ⟨fun _ => "given"⟩
  have c := partsF s
  have fr : ∀ x : Str, x ∈ frees → mg x = none := fun x hx => He.free_ok X G (c.free x hx)
  have B : Gls mg := ⟨fr _ (by decide +kernel), fr _ (by decide +kernel), fr _ (by decide +kernel), fr _ (by decide +kernel), fr _ (by decide +kernel), fr _ (by decide +kernel), fr _ (by decide +kernel), fr _ (by decide +kernel), fr _ (by decide +kernel), fr _ (by decide +kernel), fr _ (by decide +kernel), fr _ (by decide +kernel), fr _ (by decide +kernel), fr _ (by decide +kernel), fr _ (by decide +kernel), fr _ (by decide +kernel), fr _ (by decide +kernel), fr _ (by decide +kernel), fr _ (by decide +kernel), fr _ (by decide +kernel), fr _ (by decide +kernel)⟩
  have KV := kls_of c
  have CL := mkB_cls c.mkk
  have gV : mg "Areas" = some (.ref (He.ga K "Areas")) := He.glo_ok X G c.vg
  have mn : ∃ t, mg "MOST_NUMBER" = some (.int 4000 t) := He.int_ok X G (c.nums' (nu1 "MOST_NUMBER" 4000) (.head _))
  have mln : ∃ t, mg "MOST_LINES" = some (.int 10 t) := He.int_ok X G (c.nums' (nu1 "MOST_LINES" 10) (.tail _ (.head _)))
  have mlt : ∃ t, mg "_MOST_LETTERS" = some (.int 8 t) := He.int_ok X G (c.nums' (nu1 "_MOST_LETTERS" 8) (.tail _ (.tail _ (.head _))))
  have SM := Option.isSome_iff_exists.mp c.sm
  have gl : ∀ x : Str, x ∈ funs → mg x = some (.ref (He.ga K x)) := fun x hx => He.glo_ok X G (c.funs' x hx)
  have lenF := He.ba c.len
  have lenF : PySem.W.findIn K (.ref (He.ga K "Areas")) "__len__" = some (some (.ref (Way.ad K (.meth "Areas" "__len__")))) ∧ PySem.W.isFn K (.ref (Way.ad K (.meth "Areas" "__len__"))) = true := ⟨He.eqO_ok lenF.1, lenF.2⟩
  obtain ⟨fd0, F0⟩ := s.fun_ 0 (w := .glo "is_integer") (st := s_is_integer) (x := "is_integer") (q := "is_integer") rfl
  obtain ⟨fd1, F1⟩ := s.fun_ 1 (w := .glo "is_number") (st := s_is_number) (x := "is_number") (q := "is_number") rfl
  obtain ⟨fd2, F2⟩ := s.fun_ 2 (w := .glo "are_numbers") (st := s_are_numbers) (x := "are_numbers") (q := "are_numbers") rfl
  obtain ⟨fd3, F3⟩ := s.fun_ 3 (w := .glo "is_name") (st := s_is_name) (x := "is_name") (q := "is_name") rfl
  obtain ⟨fd4, F4⟩ := s.fun_ 4 (w := .glo "wrong_at") (st := s_wrong_at) (x := "wrong_at") (q := "wrong_at") rfl
  obtain ⟨fd5, F5⟩ := s.fun_ 5 (w := .glo "_unit") (st := s_unit) (x := "_unit") (q := "_unit") rfl
  obtain ⟨fd6, F6⟩ := s.fun_ 6 (w := .glo "_number_with") (st := s_number_with) (x := "_number_with") (q := "_number_with") rfl
  obtain ⟨fd7, F7⟩ := s.fun_ 7 (w := .glo "read_number") (st := s_read_number) (x := "read_number") (q := "read_number") rfl
  obtain ⟨fd8, F8⟩ := s.fun_ 8 (w := .glo "is_stretch") (st := s_is_stretch) (x := "is_stretch") (q := "is_stretch") rfl
  obtain ⟨fd9, F9⟩ := s.fun_ 9 (w := .glo "lies_in") (st := s_lies_in) (x := "lies_in") (q := "lies_in") rfl
  obtain ⟨fd10, F10⟩ := s.fun_ 10 (w := .glo "text_of_stretch") (st := s_text_of_stretch) (x := "text_of_stretch") (q := "text_of_stretch") rfl
  obtain ⟨fd11, F11⟩ := s.fun_ 11 (w := .glo "stretch_in_text") (st := s_stretch_in_text) (x := "stretch_in_text") (q := "stretch_in_text") rfl
  obtain ⟨fd12, F12⟩ := s.fun_ 12 (w := .glo "_is_line") (st := s_is_line) (x := "_is_line") (q := "_is_line") rfl
  obtain ⟨fd13, F13⟩ := s.fun_ 13 (w := .glo "_need_lines") (st := s_need_lines) (x := "_need_lines") (q := "_need_lines") rfl
  obtain ⟨fd14, F14⟩ := s.fun_ 14 (w := .glo "_line_text") (st := s_line_text) (x := "_line_text") (q := "_line_text") rfl
  obtain ⟨fd15, F15⟩ := s.fun_ 15 (w := .glo "_read_line") (st := s_read_line) (x := "_read_line") (q := "_read_line") rfl
  obtain ⟨fd16, F16⟩ := s.fun_ 16 (w := .glo "read_lines") (st := s_read_lines) (x := "read_lines") (q := "read_lines") rfl
  obtain ⟨fd17, F17⟩ := s.fun_ 17 (w := .glo "need_areas") (st := s_need_areas) (x := "need_areas") (q := "need_areas") rfl
  obtain ⟨fd18, F18⟩ := s.fun_ 18 (w := .glo "is_area") (st := s_is_area) (x := "is_area") (q := "is_area") rfl
  obtain ⟨fd19, F19⟩ := s.fun_ 19 (w := .glo "need_area") (st := s_need_area) (x := "need_area") (q := "need_area") rfl
  obtain ⟨fd20, F20⟩ := s.fun_ 20 (w := .glo "index_of_area") (st := s_index_of_area) (x := "index_of_area") (q := "index_of_area") rfl
  obtain ⟨fd21, F21⟩ := s.fun_ 21 (w := .glo "stretches_of") (st := s_stretches_of) (x := "stretches_of") (q := "stretches_of") rfl
  obtain ⟨fd22, F22⟩ := s.fun_ 22 (w := .glo "parents_of") (st := s_parents_of) (x := "parents_of") (q := "parents_of") rfl
  obtain ⟨fd23, F23⟩ := s.fun_ 23 (w := .glo "parts_of") (st := s_parts_of) (x := "parts_of") (q := "parts_of") rfl
  obtain ⟨fd24, F24⟩ := s.fun_ 24 (w := .glo "upward_ranges") (st := s_upward_ranges) (x := "upward_ranges") (q := "upward_ranges") rfl
  obtain ⟨fd25, F25⟩ := s.fun_ 25 (w := .glo "tree_ranges") (st := s_tree_ranges) (x := "tree_ranges") (q := "tree_ranges") rfl
  obtain ⟨fd26, F26⟩ := s.fun_ 26 (w := .glo "is_count") (st := s_is_count) (x := "is_count") (q := "is_count") rfl
  obtain ⟨fd27, F27⟩ := s.fun_ 27 (w := .glo "need_count") (st := s_need_count) (x := "need_count") (q := "need_count") rfl
  obtain ⟨fd28, F28⟩ := s.fun_ 28 (w := .glo "_total") (st := s_total) (x := "_total") (q := "_total") rfl
  obtain ⟨fd29, F29⟩ := s.fun_ 29 (w := .glo "need_areas_named") (st := s_need_areas_named) (x := "need_areas_named") (q := "need_areas_named") rfl
  obtain ⟨fd30, F30⟩ := s.fun_ 30 (w := .glo "need_width") (st := s_need_width) (x := "need_width") (q := "need_width") rfl
  obtain ⟨fd31, F31⟩ := s.fun_ 31 (w := .glo "_need_page") (st := s_need_page) (x := "_need_page") (q := "_need_page") rfl
  obtain ⟨fd32, F32⟩ := s.fun_ 32 (w := .glo "_guesses") (st := s_guesses) (x := "_guesses") (q := "_guesses") rfl
  obtain ⟨fd33, F33⟩ := s.fun_ 33 (w := .glo "area_guess") (st := s_area_guess) (x := "area_guess") (q := "area_guess") rfl
  obtain ⟨fd34, F34⟩ := s.fun_ 34 (w := .glo "worked_out_areas") (st := s_worked_out_areas) (x := "worked_out_areas") (q := "worked_out_areas") rfl
  obtain ⟨fd35, F35⟩ := s.fun_ 35 (w := .glo "_are_safe") (st := s_are_safe) (x := "_are_safe") (q := "_are_safe") rfl
  obtain ⟨fd36, F36⟩ := s.fun_ 36 (w := .glo "is_safe_area") (st := s_is_safe_area) (x := "is_safe_area") (q := "is_safe_area") rfl
  obtain ⟨fd37, F37⟩ := s.fun_ 37 (w := .glo "_law_jar") (st := s_ljar) (x := "_law_jar") (q := "_law_jar") rfl
  obtain ⟨fd38, F38⟩ := s.fun_ 38 (w := .glo "_law_draw") (st := s_ldraw) (x := "_law_draw") (q := "_law_draw") rfl
  obtain ⟨fd39, F39⟩ := s.fun_ 39 (w := .glo "_law_pick") (st := s_lpick) (x := "_law_pick") (q := "_law_pick") rfl
  obtain ⟨fd40, F40⟩ := s.fun_ 40 (w := .glo "_law_tags") (st := s_ltags) (x := "_law_tags") (q := "_law_tags") rfl
  obtain ⟨fd41, F41⟩ := s.fun_ 41 (w := .glo "_law_leaves") (st := s_lleaves) (x := "_law_leaves") (q := "_law_leaves") rfl
  obtain ⟨fd42, F42⟩ := s.fun_ 42 (w := .glo "_law_sums") (st := s_lsums) (x := "_law_sums") (q := "_law_sums") rfl
  obtain ⟨fd43, F43⟩ := s.fun_ 43 (w := .glo "_law_lie") (st := s_llie) (x := "_law_lie") (q := "_law_lie") rfl
  obtain ⟨fd44, F44⟩ := s.fun_ 44 (w := .glo "_law_counts") (st := s_lcounts) (x := "_law_counts") (q := "_law_counts") rfl
  obtain ⟨fd45, F45⟩ := s.fun_ 45 (w := .glo "_law_town") (st := s_ltown) (x := "_law_town") (q := "_law_town") rfl
  obtain ⟨fd46, F46⟩ := s.fun_ 46 (w := .glo "_law_seen") (st := s_lseen) (x := "_law_seen") (q := "_law_seen") rfl
  obtain ⟨fd47, F47⟩ := s.fun_ 47 (w := .glo "_law_right") (st := s_lright) (x := "_law_right") (q := "_law_right") rfl
  obtain ⟨fd48, F48⟩ := s.fun_ 48 (w := .glo "law") (st := s_law) (x := "law") (q := "law") rfl
  obtain ⟨fi, Fi⟩ := s.fun_ 49 (w := .meth "Areas" "__init__") (st := m_init) (x := "__init__") (q := "Areas.__init__") rfl
  obtain ⟨fl, Fl⟩ := s.fun_ 50 (w := .meth "Areas" "__len__") (st := m_len) (x := "__len__") (q := "Areas.__len__") rfl
  obtain ⟨cL, hcL, eL⟩ := code_at F29 (p := ("need_areas_named", none)) rfl
  have e := hfa.symm.trans (gl "law" (by decide +kernel))
  cases e
  refine ⟨fd48, fun s v => ?_, fun base _ _ TB => ?_⟩
  · obtain ⟨oc, od, kV, doc, pm, an, cdv, ct, osl, rfl, lk, hcd⟩ := F48.ex
    exact .of_eq rfl
  have TL : TabB base mg cL (He.cT K ("need_areas_named", none)).2 := by
    rw [← eL]
    exact TB _ (.head _)
  have u1 : ∀ p ∈ tabL K, p.1 = (He.cT K ("need_areas_named", none)).2 → p.2 = lamN "need_areas_named" s_need_areas_named := by
    intro p hp
    unfold tabL at hp
    simp only [List.mem_cons, List.not_mem_nil, or_false] at hp
    rcases hp with rfl
    exact fun _ => rfl
  have DL : PropD P w K mg base (He.ga K "Areas") "lines" "_lines" 1 := prop_of s c (st := m_lines) (q := "Areas.lines") 52 rfl (c.pr (pl1 "lines" 2) (by unfold props; exact .head _)) ⟨rfl, rfl, rfl, by decide +kernel, rfl, by decide +kernel, by decide +kernel⟩ rfl (c.na "_lines" (by unfold fields; exact .head _)) (fun kV doc pm an cdv ct us hl => match us, hl with | [u], _ => rfl)
  have DN : PropD P w K mg base (He.ga K "Areas") "names" "_names" 1 := prop_of s c (st := m_names) (q := "Areas.names") 53 rfl (c.pr (pl1 "names" 3) (by unfold props; exact .tail _ (.head _))) ⟨rfl, rfl, rfl, by decide +kernel, rfl, by decide +kernel, by decide +kernel⟩ rfl (c.na "_names" (by unfold fields; exact .tail _ (.head _))) (fun kV doc pm an cdv ct us hl => match us, hl with | [u], _ => rfl)
  have D_is_integer := Call.of F0 (ok_is_integer (P := P) (w := w) (base := base) F0 SM B) (gl "is_integer" (by decide +kernel)) (fun kV doc pm an cdv ct us hl => match us, hl with | [u], _ => rfl)
  have D_is_number := Call.of F1 (ok_is_number D_is_integer F1 SM B) (gl "is_number" (by decide +kernel)) (fun kV doc pm an cdv ct us hl => match us, hl with | [u], _ => rfl)
  have D_are_numbers := Call.of F2 (ok_are_numbers D_is_number F2 SM B) (gl "are_numbers" (by decide +kernel)) (fun kV doc pm an cdv ct us hl => match us, hl with | [u, v], _ => rfl)
  have D_is_name := Call.of F3 (ok_is_name (P := P) (w := w) (base := base) mlt F3 SM B) (gl "is_name" (by decide +kernel)) (fun kV doc pm an cdv ct us hl => match us, hl with | [u], _ => rfl)
  have D_is_stretch := Call.of F8 (ok_is_stretch D_is_integer mn F8 SM B) (gl "is_stretch" (by decide +kernel)) (fun kV doc pm an cdv ct us hl => match us, hl with | [u], _ => rfl)
  have D_lies_in := Call.of F9 (ok_lies_in (P := P) (w := w) (base := base) F9 SM B) (gl "lies_in" (by decide +kernel)) (fun kV doc pm an cdv ct us hl => match us, hl with | [u, v], _ => rfl)
  have D_text_of_stretch := Call.of F10 (ok_text_of_stretch (P := P) (w := w) (base := base) F10 SM B) (gl "text_of_stretch" (by decide +kernel)) (fun kV doc pm an cdv ct us hl => match us, hl with | [u], _ => rfl)
  have D_is_line := Call.of F12 (ok_is_line D_is_name D_is_stretch F12 SM B) (gl "_is_line" (by decide +kernel)) (fun kV doc pm an cdv ct us hl => match us, hl with | [u, v], _ => rfl)
  have D_need_lines := Call.of F13 (ok_need_lines mln D_is_line F13 SM B) (gl "_need_lines" (by decide +kernel)) (fun kV doc pm an cdv ct us hl => match us, hl with | [u], _ => rfl)
  have D_line_text := Call.of F14 (ok_line_text D_text_of_stretch F14 SM B) (gl "_line_text" (by decide +kernel)) (fun kV doc pm an cdv ct us hl => match us, hl with | [u, v], _ => rfl)
  have D_need_areas := Call.of F17 (ok_need_areas (P := P) (w := w) (base := base) gV KV F17 SM B) (gl "need_areas" (by decide +kernel)) (fun kV doc pm an cdv ct us hl => match us, hl with | [u], _ => rfl)
  have D_stretchesN := Call.of F21 (ok_stretches_new DL F21 SM B) (gl "stretches_of" (by decide +kernel)) (fun kV doc pm an cdv ct us hl => match us, hl with | [u], _ => rfl)
  have D_stretches_of := Call.dat D_stretchesN
  have D_parents_of := Call.of F22 (ok_parents_of DL DN F22 SM B) (gl "parents_of" (by decide +kernel)) (fun kV doc pm an cdv ct us hl => match us, hl with | [u], _ => rfl)
  have D_parts_of := Call.of F23 (ok_parts_of DN D_parents_of F23 SM B) (gl "parts_of" (by decide +kernel)) (fun kV doc pm an cdv ct us hl => match us, hl with | [u], _ => rfl)
  have D_upward_ranges := Call.of F24 (ok_upward_ranges (P := P) (w := w) (base := base) F24 SM B) (gl "upward_ranges" (by decide +kernel)) (fun kV doc pm an cdv ct us hl => match us, hl with | [u, v], _ => rfl)
  have D_tree_ranges := Call.of F25 (ok_tree_ranges D_upward_ranges F25 SM B) (gl "tree_ranges" (by decide +kernel)) (fun kV doc pm an cdv ct us hl => match us, hl with | [u, v], _ => rfl)
  have LEN : LAr P w K mg base (He.ga K "Areas") := ⟨⟨_, fl, lenF.1, lenF.2, ok_len CL (c.na "_lines" (.head _)) Fl SM B, Fl.binds (fun kV doc pm an cdv ct us hl => match us, hl with | [u], _ => rfl)⟩⟩
  have MV : MakeD P w K mg base 5 "Areas" (He.ga K "Areas") 1 ["self", "lines"] preLines (fun ds => .ok (areasF ds)) := ⟨⟨_, fi, mkB_mk c.mkk, ok_init CL (c.na "_lines" (.head _)) (c.na "_names" (.tail _ (.head _))) (c.na "_leaves" (.tail _ (.tail _ (.head _)))) (c.na "_text" (.tail _ (.tail _ (.tail _ (.head _))))) D_need_lines D_line_text Fi SM B, Fi.binds (fun kV doc pm an cdv ct us hl => match us, hl with | [u, v], _ => rfl)⟩, gV⟩
  have D_is_area := Call.of F18 (ok_is_area DN F18 SM B) (gl "is_area" (by decide +kernel)) (fun kV doc pm an cdv ct us hl => match us, hl with | [u, v], _ => rfl)
  have D_need_area := Call.of F19 (ok_need_area D_is_area F19 SM B) (gl "need_area" (by decide +kernel)) (fun kV doc pm an cdv ct us hl => match us, hl with | [u, v], _ => rfl)
  have D_index_of_area := Call.of F20 (ok_index_of_area DN D_need_area F20 SM B) (gl "index_of_area" (by decide +kernel)) (fun kV doc pm an cdv ct us hl => match us, hl with | [u, v], _ => rfl)
  have D_total := Call.of F28 (ok_total (P := P) (w := w) (base := base) F28 SM B) (gl "_total" (by decide +kernel)) (fun kV doc pm an cdv ct us hl => match us, hl with | [u, v], _ => rfl)
  have D_is_count := Call.of F26 (ok_is_count D_need_areas D_are_numbers LEN D_lies_in D_stretches_of D_parts_of D_total F26 SM B) (gl "is_count" (by decide +kernel)) (fun kV doc pm an cdv ct us hl => match us, hl with | [u, v], _ => rfl)
  have D_need_count := Call.of F27 (ok_need_count D_is_count F27 SM B) (gl "need_count" (by decide +kernel)) (fun kV doc pm an cdv ct us hl => match us, hl with | [u, v], _ => rfl)
  have D_wrong_at := Call.of F4 (ok_wrong_at (P := P) (w := w) (base := base) F4 SM B) (gl "wrong_at" (by decide +kernel)) (fun kV doc pm an cdv ct us hl => match us, hl with | [u, v], _ => rfl)
  have D_need_areas_named := Call.of F29 (ok_need_areas_named D_is_area D_wrong_at F29 hcL SM B TL (.head _) u1) (gl "need_areas_named" (by decide +kernel)) (fun kV doc pm an cdv ct us hl => match us, hl with | [u, v], _ => rfl)
  have D_need_width := Call.of F30 (ok_need_width D_is_integer F30 SM B) (gl "need_width" (by decide +kernel)) (fun kV doc pm an cdv ct us hl => match us, hl with | [u], _ => rfl)
  obtain ⟨c1, hc1⟩ := code_of F31
  have D_need_page := Call.of F31 (ok_need_page D_need_areas D_need_count D_need_areas_named F31 hc1 SM B) (gl "_need_page" (by decide +kernel)) (fun kV doc pm an cdv ct us hl => match us, hl with | [u, v, x1], _ => rfl)
  have D_guesses := Call.of F32 (ok_guesses DN D_stretchesN D_parts_of D_tree_ranges F32 SM B) (gl "_guesses" (by decide +kernel)) (fun kV doc pm an cdv ct us hl => match us, hl with | [u, v, x1], _ => rfl)
  obtain ⟨c2, hc2⟩ := code_of F33
  have m_ag := ok_area_guess D_need_page D_index_of_area D_guesses F33 hc2 SM B
  have D_area_guess := Call.of F33 (m_ag) (gl "area_guess" (by decide +kernel)) (fun kV doc pm an cdv ct us hl => match us, hl with | [u, v, x1, x2], _ => rfl)
  have D_agR : CallR P w K mg base (L2.CX P w) 8 "area_guess" ["areas", "count", "hidden", "name"] (spU 4 (preAG (He.ga K "Areas")) (fun ds => .ok (agD ds)) (tabL K)) ["name", "hidden", "count", "areas"] := by
    refine ⟨_, fd33, m_ag, (gl "area_guess" (by decide +kernel)), F33.kp, fun s us hl => ?_⟩
    obtain ⟨oc, od, kV, doc, pm, an, cdv, ct, osl, rfl, lk, hcd⟩ := F33.ex
    match us, hl with
    | [u, v, x1, x2], _ => exact .of_eq rfl
  have D_are_safe := Call.of F35 (ok_are_safe D_index_of_area D_guesses F35 SM B) (gl "_are_safe" (by decide +kernel)) (fun kV doc pm an cdv ct us hl => match us, hl with | [u, v, x1, x2, x3], _ => rfl)
  obtain ⟨c3, hc3⟩ := code_of F36
  have m_is := ok_is_safe_area D_need_page D_index_of_area D_need_width D_are_safe F36 hc3 SM B
  have D_is_safe_area := Call.of F36 (m_is) (gl "is_safe_area" (by decide +kernel)) (fun kV doc pm an cdv ct us hl => match us, hl with | [u, v, x1, x2, x3], _ => rfl)
  have D_isR : CallR P w K mg base (L2.CX P w) 8 "is_safe_area" ["areas", "count", "hidden", "name", "width"] (spU 5 (preIS (He.ga K "Areas")) (fun ds => .ok (isD2 ds)) (tabL K)) ["width", "name", "hidden", "count", "areas"] := by
    refine ⟨_, fd36, m_is, (gl "is_safe_area" (by decide +kernel)), F36.kp, fun s us hl => ?_⟩
    obtain ⟨oc, od, kV, doc, pm, an, cdv, ct, osl, rfl, lk, hcd⟩ := F36.ex
    match us, hl with
    | [u, v, x1, x2, x3], _ => exact .of_eq rfl
  obtain ⟨c4, hc4⟩ := code_of F34
  have m_wo := ok_worked_out_areas D_need_page D_are_safe F34 hc4 SM B
  have D_worked_out_areas := Call.of F34 (m_wo) (gl "worked_out_areas" (by decide +kernel)) (fun kV doc pm an cdv ct us hl => match us, hl with | [u, v, x1], _ => rfl)
  have D_woR : CallR P w K mg base (L2.CX P w) 8 "worked_out_areas" ["areas", "count", "hidden"] (spU 3 (prePg (He.ga K "Areas")) (fun ds => .ok (woD ds)) (tabL K)) ["hidden", "count", "areas"] := by
    refine ⟨_, fd34, m_wo, (gl "worked_out_areas" (by decide +kernel)), F34.kp, fun s us hl => ?_⟩
    obtain ⟨oc, od, kV, doc, pm, an, cdv, ct, osl, rfl, lk, hcd⟩ := F34.ex
    match us, hl with
    | [u, v, x1], _ => exact .of_eq rfl
  have D_ljar := Call.of F37 (.of (ok_jar (P := P) (w := w) (base := base) F37 B)) (gl "_law_jar" (by decide +kernel)) (fun kV doc pm an cdv ct us hl => match us, hl with | [u, v], _ => rfl)
  have D_ldraw := Call.of F38 (ok_ldraw (P := P) (w := w) (base := base) F38 SM B) (gl "_law_draw" (by decide +kernel)) (fun kV doc pm an cdv ct us hl => match us, hl with | [u, v], _ => rfl)
  have D_lpick := Call.of F39 (ok_lpick D_ldraw F39 SM B) (gl "_law_pick" (by decide +kernel)) (fun kV doc pm an cdv ct us hl => match us, hl with | [u, v], _ => rfl)
  have D_ltags := Call.of F40 (ok_ltags D_lpick F40 SM B) (gl "_law_tags" (by decide +kernel)) (fun kV doc pm an cdv ct us hl => match us, hl with | [u, v], _ => rfl)
  have D_lleaves := Call.of F41 (ok_lleaves (P := P) (w := w) (base := base) F41 SM B) (gl "_law_leaves" (by decide +kernel)) (fun kV doc pm an cdv ct us hl => match us, hl with | [u], _ => rfl)
  have D_lsums := Call.of F42 (ok_lsums D_lleaves F42 SM B) (gl "_law_sums" (by decide +kernel)) (fun kV doc pm an cdv ct us hl => match us, hl with | [u, v], _ => rfl)
  have D_llie := Call.of F43 (ok_llie (P := P) (w := w) (base := base) F43 SM B) (gl "_law_lie" (by decide +kernel)) (fun kV doc pm an cdv ct us hl => match us, hl with | [u, v], _ => rfl)
  have D_lcounts := Call.of F44 (ok_lcounts D_lleaves D_lsums D_llie F44 SM B) (gl "_law_counts" (by decide +kernel)) (fun kV doc pm an cdv ct us hl => match us, hl with | [u, v], _ => rfl)
  have D_ltown := Call.of F45 (ok_ltown D_ldraw D_ltags D_lleaves D_lsums F45 SM B) (gl "_law_town" (by decide +kernel)) (fun kV doc pm an cdv ct us hl => match us, hl with | [u, v, x1], _ => rfl)
  have D_lseen := Call.of F46 (ok_lseen (P := P) (w := w) (base := base) F46 SM B) (gl "_law_seen" (by decide +kernel)) (fun kV doc pm an cdv ct us hl => match us, hl with | [u, v, x1], _ => rfl)
  obtain ⟨c5, hc5⟩ := code_of F47
  have D_lright := Call.of F47 (ok_lright MV D_ltown D_lcounts D_lseen D_ldraw D_lpick D_area_guess D_agR D_is_safe_area D_isR D_worked_out_areas D_woR F47 hc5 SM B) (gl "_law_right" (by decide +kernel)) (fun kV doc pm an cdv ct us hl => match us, hl with | [u], _ => rfl)
  exact ok_law F48 B D_ljar D_lright
end
end K13
end
namespace K13
open PySem PySem.Spec PyProof.Rows L2 Tc
open LamX (Tabs TabS)
theorem tabs0 {K : PySem.W.Frag} {H : Hp} (h : ∀ p ∈ tf.map (He.cT K), H p.2 = some (.tbl #[])) : Tabs (tabL K) H := by
  intro p hp
  unfold tabL at hp
  simp only [List.mem_cons, List.not_mem_nil, or_false] at hp
  rcases hp with rfl
  exact TabS.nil (h (He.cT K ("need_areas_named", none)) (.head _))
end K13
open PySem PySem.W PySem.Calls PyProof.Rows
theorem PySem.Challenge.cw_toldcounts_k13_whole_guesses_for_areas_holds : PySem.Challenge.rw_toldcounts_k13_whole_guesses_for_areas.Holds := by
  w_on; o_law
  refine HandSHeadRun.head_any (r := OpenLaw.row PySem.Challenge.rw_toldcounts_k13_whole_guesses_for_areas) (q := view K13.R.prog [71]) (H := K13.hk) (ob := K13.ob)
    (M := 14000) (loose := K13.loose) (d := HandSHeadRun.topDef K13.R.prog 71) (kwd := []) K13.ob_eq
    (by kernel_rfl) (fun s => by kernel_rfl) K13.run (by kernel_rfl) (by kernel_rfl) (by kernel_rfl) (by rfl) (by first | assumption | decide +kernel) (by decide +kernel)
    ⟨rfl, rfl, rfl, rfl, rfl, by decide +kernel⟩ ?hw ?hc
  case hw => w_witness2
  case hc =>
    refine Tc.walk_endTG (l := PySem.Challenge.rw_toldcounts_k13_whole_guesses_for_areas) (n := 63) (k := 10) (x := "_law_script") (CX := fun _ => L2.CX0)
      rfl (by decide) (by kernel_rfl) ⟨rfl, by decide, by decide⟩ ?F (fun _ _ _ _ _ z => z)
    intro w mg fa h Y G hmg0
    obtain ⟨K, KX, c⟩ := Y
    have nm : (HandSHeadRun.topDef K13.R.prog 71).name = ("law" : PySem.Str) := by kernel_rfl
    rw [nm] at hmg0
    obtain ⟨fd, hb, hF⟩ := K13.facts (P := (PySem.Challenge.rw_toldcounts_k13_whole_guesses_for_areas).prog) (w := w) KX G hmg0 c.core
    refine ⟨K, fd, K13.tf.map (He.cT K), K13.spLaw K (K13.tabL K), KX, hb, ⟨fun p hp => ?_, fun p hp => ?_, fun p hp => ?_⟩, hF, fun H a ns hl hT hS => ⟨a, ns, rfl, hS, hl, K13.tabs0 hT, fun _ => rfl⟩⟩
    · obtain ⟨q, hq, rfl⟩ := List.mem_map.mp hp
      exact c.empty q hq
    · obtain ⟨q, hq, rfl⟩ := List.mem_map.mp hp
      exact c.out q hq
    · obtain ⟨q, hq, rfl⟩ := List.mem_map.mp hp
      exact PySem.W.codeHd_of_K KX (c.hd q hq)
