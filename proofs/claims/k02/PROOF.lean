import PyProof.Rows.All
import Wide.All
import OpenK.AllK
import Wide.FinOn
import HandS.ForMost
import HandS.ForExc
import HandS.ExcInit
import HandS.ExcField
import HandS.IsInst
import HandS.StrMore
import HandS.FStr
import HandS.Conv
import KE.KExcInit
import HandS.ExcIs
import KE.KExcIs
import HandS.ExcValue
import PyProof.ExcBaseAll.ValueError
import PyProof.ExcBaseAll.LookupError
import PyProof.ExcBaseAll.ArithmeticError
import KE.KStateDown
import HandS.Defaults
import HandS.Head0
import HandS.Head1
import HandS.Head2
import HandS.HeadHook1
import KE.KTryMore
import HandS.Exc
import HandS.Lambda
import HandS.WordsExc
import HandS.SetFor
import HandS.Evl
import PyProof.EqKinds
import HandS.Walk
import PyProof.Rows.Chain
import HandS.HeadHook4
import HandS.EndTab
import HandS.Text
import KE.IntTextText
import HandS.Iter
import KE.KxIndex
import HandS.Wide
import PyProof.Rows.RegFStrParts
import PyProof.ListStr
import HandS.HeadEnd
import PySem.Challenge.RW_toldcounts_k02_whole_stretches_and_their
set_option Elab.async false
set_option linter.all false
set_option maxRecDepth 100000
set_option maxHeartbeats 0
/-! Defs that may show things: no repr runs around them (the guards are known to be none). -/
namespace Tc
open PySem PySem.Spec PyProof.Rows L2

/-- as a def's promise, for callers that no repr runs around -/
structure FnG (P : Program) (w : World) (K : PySem.W.Frag) (mg : Str → Option Value) (base : Heap)
    (CX : CXT) (k : Nat) (f : Addr) (fd : FuncData) (ps : List Str) (sp : Sp) : Prop where
  len : ∀ vs H Q E, sp vs H Q E → vs.length = ps.length
  run : ∀ (A : Around) (outer : List Env) (s : Shared) (H : Hp) (args : Args) (us : List Value)
    (vs : List V) (Q : VK) (E : XK), Room k A → A.guards = some [] →
    Env0 P w K mg base A outer s H → BindsTo s fd args (ps.zip us) → Vals vs us → sp vs H Q E →
    codeAny (model P w) A (.call (.ref f) args) (CR CX outer P w H s Q E) s

theorem FnG.of {P : Program} {w : World} {K : PySem.W.Frag} {mg : Str → Option Value} {base : Heap}
    {CX : CXT} {k : Nat} {f : Addr} {fd : FuncData} {ps : List Str} {sp : Sp}
    (F : FnOk P w K mg base CX k f fd ps sp) : FnG P w K mg base CX k f fd ps sp :=
  ⟨F.len, fun A o s H args us vs Q E hr _ => F.run A o s H args us vs Q E hr⟩

theorem FnG.mono {P : Program} {w : World} {K : PySem.W.Frag} {mg : Str → Option Value} {base : Heap}
    {CX : CXT} {j k : Nat} {f : Addr} {fd : FuncData} {ps : List Str} {sp : Sp}
    (F : FnG P w K mg base CX j f fd ps sp) (h : j ≤ k) : FnG P w K mg base CX k f fd ps sp :=
  ⟨F.len, fun A o s H args us vs Q E hr => F.run A o s H args us vs Q E (hr.mono h)⟩

section
variable {P : Program} {w : World} {K : PySem.W.Frag} {mg : Str → Option Value} {base : Heap}
theorem Fun.okG {CX : CXT} {x qual : Str} {st : Stmt} {f : Addr} {fd : FuncData} {N ps : List Str}
    {k : Nat} {sp : Sp} (F : Fun K x qual st f fd) (S : FnScope N ps (defScope st))
    (len : ∀ vs H Q E, sp vs H Q E → vs.length = ps.length)
    (hbody : ∀ (cdv : Value) (A : Around) (outer : List Env) (s : Shared) (H : Hp) (vs : List V)
      (Q : VK) (E : XK), Room k (A.deeper (envOfC qual (defScope st) s.heap.objs.size f cdv)) →
      (A.deeper (envOfC qual (defScope st) s.heap.objs.size f cdv)).guards = some [] →
      sp vs H Q E →
      ∃ t, PSs (cxOf CX P w K mg base N qual (defScope st) f cdv A outer s H E) (defBody st) t ∧
        t { nx := fun _ H' => Q .non H', rt := Q } (start N vs) H) :
    FnG P w K mg base CX (k + 1) f fd ps sp := by
  obtain ⟨oc, od, kV, doc, pm, an, cdv, ct, osl, rfl, lk, hcd⟩ := F.ex
  refine ⟨len, ?_⟩
  intro A outer s H args us vs Q E hr hgd e0 hb r hsp
  have vl := len _ _ _ _ hsp
  have kin : K.In s.heap := e0.mod.kin.keeps (fun b o e => (e0.bs b o e).1)
  have nlim : s.heap.NoLimit := e0.mod.nolimit.keeps (fun b o e => (e0.bs b o e).1)
  have kinds : ∀ y ∈ ps.zip us, (defScope st).names.lookup y.1 = some .local ∨
      ((defScope st).names.lookup y.1 = some .cell ∧
        ((cellsFrom (s.heap.objs.size + 1) (defScope st).names []).lookup y.1).isSome = true) := by
    rintro ⟨n, v⟩ hy
    cases S.par n (List.of_mem_zip hy).1 with
    | inl q => exact .inl q
    | inr q => exact .inr ⟨q, PySem.W.cellsFrom_some _ _ _ (.inl q)⟩
  refine codeAny_call_function hr.depth (kin _ _ lk) rfl S.co S.gen rfl
    (PySem.W.codeRec_of kin hcd) (hb _ _ _ _ ?_)
  refine wpAny_newFunctionEnv_cells S.kind kinds (fun env he s1 x => ?_)
  subst he
  refine ⟨nlim.keeps x.toInCall.keep, codeAny_func ?_⟩
  obtain ⟨t, ht, hq⟩ := hbody cdv A outer s H vs Q E (hr.deeper _) hgd hsp
  have I := inv_start (CX := CX) (P := P) (w := w) (mg := mg) (base := base) (E := E) S hr.hd e0 vl r x
  refine wpAny_mono (ht.run [] s1 (start N vs) H _ I hq) (fun fl s' hs => ?_) (fun e s' hs => hs)
  have close : ∀ {σ' : L2.St} {H' : Hp} {v : V} {u : Value},
      Inv (cxOf CX P w K mg base N qual (defScope st) f cdv A outer s H E) [] σ' H' s' →
      RelV v u → Q v H' → CE outer P w H s Q u s' := by
    intro σ' H' v u J rv q
    exact ⟨v, H', J.os, J.bare, J.base, J.hok, rv, q⟩
  cases fl with
  | ret u => obtain ⟨v, σ', H', J, rv, q⟩ := hs; exact close J rv q
  | next => obtain ⟨σ', H', J, q⟩ := hs; exact close (v := V.non) (u := Value.none) J rfl q
  | brk => obtain ⟨_, _, _, q⟩ := hs; exact False.elim q
  | cont => obtain ⟨_, _, _, q⟩ := hs; exact False.elim q
end

section
variable {X : Cx} {CX : CXT} {k : Nat} {f : Addr} {fd : FuncData} {ps : List Str} {sp : Sp}
  {dvs : List V} {ds : List Value} {E : XK} {x : Str} {p pos : Pos} {e : Expr} {es : List Expr} {t : TA}

theorem run_fnG {pins : List (Addr × Obj)} {σ : L2.St} {H : Hp} {s : Shared} {Q : VK}
    {us : List Value} {vs : List V} (F : FnG X.prog X.w X.K X.mg X.base CX k f fd ps sp)
    (hr : Room k X.A) (hgd : X.A.guards = some []) (hb : Binds X.K fd ps ds) (hd : Vals dvs ds)
    (hx : Passes CX X E) (I : Inv X pins σ H s) (r : Vals vs us) (h : sp (vs ++ dvs) H Q E) :
    wpAny (model X.prog X.w) X.A (call (.ref f) us) (EP X pins σ Q) X.xe s := by
  have both : Vals (vs ++ dvs) (us ++ ds) := r.append hd
  have hl : (us ++ ds).length = ps.length := both.length ▸ F.len _ _ _ _ h
  have main := F.run X.A X.stack s H ⟨us, []⟩ (us ++ ds) (vs ++ dvs) Q E hr hgd I.env0
    (hb s us I.kIn hl) both h
  refine wpAny_call (codeAny_mono main ?_)
  intro res s' hq
  cases res with
  | error er => exact hx pins σ H s er s' I hq
  | ok fl =>
    cases fl with
    | ret u => exact I.after hq
    | next | brk | cont => exact False.elim hq

theorem pe_callG (F : FnG X.prog X.w X.K X.mg X.base CX k f fd ps sp) (hr : Room k X.A)
    (hgd : X.A.guards = some []) (hg : Gl X x) (hm : X.mg x = some (.ref f))
    (hk : PySem.W.keepIn X.K (.ref f) = true) (hb : Binds X.K fd ps ds) (hd : Vals dvs ds)
    (hx : Passes CX X E) (ha : PA X (e :: es) t)
    (hdb : (x == ("__debug__" : Str)) = false := by decide)
    (he : starEach (e :: es) X.env = (false, eval e X.env) :: starEach es X.env := by rfl)
    (hpl : (backTo pos (starEach es X.env)).any (·.1) = false := by rfl) :
    PE X (.Call (.Name x p) (e :: es) [] pos) (tCall sp dvs E t) := by
  constructor
  intro pins s σ H Q I h
  have args := ha.run pos pins s σ H _ I h
  refine wpAny_Call_Name_kw (ld_glob I hg hm ?_ hdb)
  refine PySem.W.callWith_K (h₀ := X.base) I.ok.mod.kin hk (thn args ?_) he hpl
  rintro us s1 ⟨vs, H1, I1, r, q⟩
  exact ⟨I1.kIn, run_fnG F hr hgd hb hd hx I1 r q⟩
end
end Tc
/-! Data at any depth, dicts too; what repr makes of them. -/
namespace Tc
open PySem PySem.Spec PyProof.Rows L2

def kD : Key → PyData
  | .inl i => .int i
  | .inr x => .str x

mutual
/-- the value is this data, all of it tracked -/
inductive Dv (H : Hp) : V → PyData → Prop
  | non : Dv H .non .none
  | bl (b : Bool) : Dv H (.bl b) (.bool b)
  | int (i : Int) : Dv H (.int i) (.int i)
  | str (x : Str) : Dv H (.str x) (.str x)
  | lst {a : Addr} {xs : List V} {ds : List PyData} : Rd H a (.lst xs) → DvAll H xs ds → Dv H (.ref a) (.list ds)
  | tup {a : Addr} {xs : List V} {ds : List PyData} : Rd H a (.tup xs) → DvAll H xs ds → Dv H (.ref a) (.tuple ds)
  | dct {a : Addr} {kvs : List (Key × V)} {ds : List (PyData × PyData)} : Rd H a (.dK kvs) → DvKv H kvs ds → Dv H (.ref a) (.dict ds)
inductive DvAll (H : Hp) : List V → List PyData → Prop
  | nil : DvAll H [] []
  | cons {v : V} {vs : List V} {d : PyData} {ds : List PyData} : Dv H v d → DvAll H vs ds → DvAll H (v :: vs) (d :: ds)
inductive DvKv (H : Hp) : List (Key × V) → List (PyData × PyData) → Prop
  | nil : DvKv H [] []
  | cons {k : Key} {v : V} {kvs : List (Key × V)} {d : PyData} {ds : List (PyData × PyData)} : Dv H v d → DvKv H kvs ds → DvKv H ((k, v) :: kvs) ((kD k, d) :: ds)
end

theorem rd_ne {H : Hp} {a : Addr} {u : HO} (h : Rd H a u) (hs : H sysModules = none) : a ≠ sysModules := by
  rintro rfl
  rcases h with h | ⟨o, h⟩ <;> (rw [hs] at h; cases h)

section
variable {X : Cx} {pins : List (Addr × Obj)} {σ : L2.St} {H : Hp} {s : Shared}
mutual
theorem Dv.reads (I : Inv X pins σ H s) (hs : H sysModules = none) : ∀ {v : V} {d : PyData}, Dv H v d → ∀ u, RelV v u →
    ∃ as, Reads s.heap u d as ∧ sysModules ∉ as
  | _, _, .non, _, r => by cases r; exact ⟨_, Reads.none, by simp⟩
  | _, _, .bl b, _, r => by cases r; exact ⟨_, Reads.bool b, by simp⟩
  | _, _, .int i, _, r => by obtain ⟨t, rfl⟩ := r; exact ⟨_, Reads.int i t, by simp⟩
  | _, _, .str x, _, r => by obtain ⟨t, rfl⟩ := r; exact ⟨_, Reads.str x t, by simp⟩
  | _, _, .lst h ha, _, r => by
    cases r
    obtain ⟨its, rv, ⟨o, n, ho, hc, _, hd⟩, _⟩ := I.list (.inl h)
    obtain ⟨as, hr, hn⟩ := DvAll.reads I hs ha _ rv
    exact ⟨_, Reads.list ho hc hd hr, by simpa using ⟨(rd_ne h hs).symm, hn⟩⟩
  | _, _, .tup h ha, _, r => by
    cases r
    obtain ⟨its, rv, ⟨o, ho, hc, n, hd⟩, _⟩ := I.tuple (.inl h)
    obtain ⟨as, hr, hn⟩ := DvAll.reads I hs ha _ rv
    exact ⟨_, Reads.tuple ho hc hd hr, hn⟩
  | _, _, .dct (a := a) h ha, _, r => by
    cases r
    obtain ⟨_, _, vs, rk, o, es, ep, ho, hx, hd, _, hp, _⟩ := h.ok I.hok
    obtain ⟨as, bs, h1, h2, n1, n2⟩ := DvKv.reads I hs ha _ rk _ hp
    exact ⟨_, Reads.dict ho hx.1 hd h1 h2, by
      simp only [List.cons_append, List.mem_cons, List.mem_append, not_or]
      exact ⟨(rd_ne h hs).symm, n1, n2⟩⟩
theorem DvAll.reads (I : Inv X pins σ H s) (hs : H sysModules = none) : ∀ {vs : List V} {ds : List PyData}, DvAll H vs ds → ∀ us, Vals vs us →
    ∃ as, ReadsAll s.heap us ds as ∧ sysModules ∉ as
  | _, _, .nil, _, r => by cases r; exact ⟨_, ReadsAll.nil, by simp⟩
  | _, _, .cons h1 h2, _, r => by
    cases r with
    | cons r1 r2 =>
      obtain ⟨as, q1, n1⟩ := Dv.reads I hs h1 _ r1
      obtain ⟨bs, q2, n2⟩ := DvAll.reads I hs h2 _ r2
      exact ⟨_, ReadsAll.cons q1 q2, by simpa using ⟨n1, n2⟩⟩
theorem DvKv.reads (I : Inv X pins σ H s) (hs : H sysModules = none) : ∀ {kvs : List (Key × V)} {ds : List (PyData × PyData)}, DvKv H kvs ds → ∀ vs, KV kvs vs → ∀ es, Pairs (mixKind X.prog X.w) es vs →
    ∃ as bs, ReadsAll s.heap (es.map (·.key)) (ds.map (·.1)) as ∧ ReadsAll s.heap (es.map (·.val)) (ds.map (·.2)) bs ∧ sysModules ∉ as ∧ sysModules ∉ bs
  | _, _, .nil, _, r, _, p => by
    cases r; cases p
    exact ⟨_, _, ReadsAll.nil, ReadsAll.nil, by simp, by simp⟩
  | _, _, .cons (k := k) h1 h2, _, r, _, p => by
    cases r with
    | cons r1 r2 =>
      cases p with
      | @cons e0 kv0 es0 kvs0 p1 p2 p3 =>
        obtain ⟨rk, rv⟩ := r1
        obtain ⟨as, q1, n1⟩ := Dv.reads I hs h1 _ rv
        obtain ⟨as', bs', q2, q3, n2, n3⟩ := DvKv.reads I hs h2 _ r2 _ p3
        have hk : ∃ cs, Reads s.heap e0.key (kD k) cs ∧ sysModules ∉ cs := by
          have p1' := p1
          rw [← rk, mixKind_is] at p1'
          rcases keyIs_shape p1' with ⟨i, t, e1, e2⟩ | ⟨x, t, e1, e2⟩
          · dsimp only at e1
            subst e1
            exact ⟨[], by rw [e2]; exact Reads.int i t, by simp⟩
          · dsimp only at e1
            subst e1
            exact ⟨[], by rw [e2]; exact Reads.str x t, by simp⟩
        obtain ⟨cs, hk1, hk2⟩ := hk
        exact ⟨_, _, ReadsAll.cons hk1 q2, ReadsAll.cons (show Reads s.heap e0.val _ as by rw [p2]; exact q1) q3, by simpa using ⟨hk2, n2⟩, by simpa using ⟨n1, n3⟩⟩
end
end

/-- repr(x) -/
def rRepr : List V → Hp → VK → Prop := fun xs H Q => ∃ v d, xs = [v] ∧ Dv H v d ∧ d.showable = true ∧ d.depth ≤ 100 ∧
  d.shown.length ≤ sizeLine ∧ Q (.str d.shown) H
theorem call_repr {X : Cx} {k : Nat} (hr : Room k X.A) (hgd : X.A.guards = some []) (hsm : ∃ o, X.K.lookup sysModules = some o) :
    CallR X (.builtin "repr") rRepr := by
  intro pins s σ H xs us Q I r h
  obtain ⟨v, d, rfl, hv, hs, hd, hl, q⟩ := h
  obtain ⟨u, rfl, ru⟩ := vals1 r
  have hun := hr.un
  have sm : H sysModules = none := by
    obtain ⟨o, ho⟩ := hsm
    exact I.bs _ _ (I.ok.mod.kin _ _ ho) |>.2
  obtain ⟨as, rd, na⟩ := Dv.reads I sm hv u ru
  cases hv with
  | non =>
    cases ru
    exact PySem.P.repr_of_none ⟨.str _, H, I.tok _, ⟨_, rfl⟩, q⟩
  | bl b =>
    cases ru
    exact PySem.P.repr_of_bool ⟨.str _, H, I.tok _, ⟨_, rfl⟩, q⟩
  | int i =>
    obtain ⟨t, rfl⟩ := ru
    exact PySem.P.repr_of_int (by simpa [PyData.showable] using hs) ⟨.str _, H, I.tok _, ⟨_, rfl⟩, q⟩
  | str x =>
    obtain ⟨t, rfl⟩ := ru
    exact PySem.P.repr_of_str ⟨.str _, H, I.tok _, ⟨_, rfl⟩, q⟩ (by simpa [PyData.shown] using hl)
  | lst _ _ | tup _ _ | dct _ _ =>
    cases ru
    refine repr_of_reads' rd hs (fun _ => na) hgd (by omega) (fun _ _ e => e) (fun h' u tk hk => ?_) hl
    exact ⟨.str _, H, I.kept (t' := tk) hk, ⟨_, rfl⟩, q⟩
end Tc
/-! The law's call, where the guards are known to be none. -/
namespace Tc
open PySem PySem.Spec PyProof.Rows L2

section
variable {P : Program} {w : World} {K : PySem.W.Frag} {mg mb : Str → Option Value} {CX : CXT}
  {k : Nat} {fa a : Addr} {fd : FuncData} {x : Str} {sp : Sp} {s₁ : Shared} {vs : List Value} {ns : List Int}

/-- what must hold behind the law's call -/
abbrev Behind (s₁ : Shared) : Result → Shared → Prop := fun r s' =>
  r = .ok (.ret (.bool true)) ∧ OldK s₁.heap s'.heap ∧ s'.os = s₁.os ∧ AllBare s'.gens

/-- the call, from a heap in which at most the script is tracked -/
theorem call_from (KX : K.In s₁.heap) (hns : s₁.heap.Ns mainGlobals mg) (hb : s₁.heap.Ns builtinsNs mb)
    (hbb : ∀ y : Str, y ≠ "__name__" → mb y = bootBuiltins y) (hlim : s₁.heap.NoLimit) (hg : s₁.gens = #[])
    (ha : s₁.heap.get? a = some { cls := .type "list", data := .seq vs.toArray }) (hr : Room k callerA)
    (F : ∀ base : Heap, K.In base → base.Ns mainGlobals mg → FnG P w K mg base CX k fa fd [x] sp)
    (hbind : ∀ (s : Shared) (u : Value), BindsTo s fd ⟨[u], []⟩ [(x, u)])
    (hCX : ∀ H e s', CX [] H s₁ (fun _ _ _ => False) e s' → False)
    (H : Hp) (hO : Only H) (hsp : sp [.ref a] H (fun v _ => v = .bl true) fun _ _ _ => False)
    (hok : HOk P w H s₁.heap) (hA : ∀ b, H b ≠ none → b = a) (hK : H a ≠ none → K.lookup a = none) :
    codeAny (model P w) callerA (.call (.ref fa) ⟨[.ref a], []⟩) (Behind s₁) s₁ := by
  have free : ∀ {b : Addr} {o : Obj}, s₁.heap.get? b = some o → (b = a → False) → H b = none := by
    intro b o _ hb
    cases q : H b with
    | none => rfl
    | some u => exact (hb (hA b (by rw [q]; exact Option.some_ne_none u))).elim
  have hidden : ∀ {b : Addr} {o : Obj}, s₁.heap.get? b = some o → H b = none →
      (hidT s₁.heap H).get? b = some o := fun e n => hidT_get e n
  have ofDict : ∀ {b : Addr} {o : Obj} {es : Array DictEntry} {ep : Nat},
      s₁.heap.get? b = some o → o.data = .dict es ep → H b = none := by
    intro b o es ep e d
    refine free e ?_
    rintro rfl
    rw [ha] at e
    cases e
    cases (show Data.seq vs.toArray _ = Data.dict es ep from d)
  have names : ∀ {b : Addr} {m : Str → Option Value}, s₁.heap.Ns b m → (hidT s₁.heap H).Ns b m := by
    rintro b m ⟨o, es, ep, e, d, r⟩
    exact ⟨o, es, ep, hidden e (ofDict e d), d, r⟩
  have written : K.In (hidT s₁.heap H) := by
    intro b o e
    refine hidden (KX b o e) ?_
    cases q : H b with
    | none => rfl
    | some u =>
      have eb : b = a := hA b (by rw [q]; exact Option.some_ne_none u)
      subst eb
      rw [hK (by rw [q]; exact Option.some_ne_none u)] at e
      cases e
  obtain ⟨mc, lim1, lim2⟩ := hlim
  have modl : Mod K mg (hidT s₁.heap H) := ⟨written, names hns, ⟨mb, names hb, hbb⟩, mc, names lim1, lim2⟩
  have e0 : Env0 P w K mg (hidT s₁.heap H) callerA [] s₁ H :=
    ⟨rfl, modl, fun b o e => of_hidT e, Nat.le_of_eq (hidT_size _ _), trivial,
      fun b h => (List.not_mem_nil (show b ∈ ([] : List Addr) from h)).elim, hok, .of_eq hg⟩
  have run := (F _ written (names hns)).run callerA [] s₁ H ⟨[.ref a], []⟩ [.ref a] [.ref a] _ _ hr rfl e0
    (hbind s₁ (.ref a)) (.cons rfl .nil) hsp
  refine codeAny_mono run ?_
  intro r s' h
  rcases r with e | fl
  · exact (hCX H e s' h).elim
  cases fl with
  | next | brk | cont => exact False.elim h
  | ret u =>
    obtain ⟨v, H', os, bare, un, hok', rv, q⟩ := h
    have hv : v = .bl true := q
    subst hv
    have hu : u = Value.bool true := rv
    subst hu
    refine ⟨rfl, OldK.of_keep (fun b o e => ?_), os, bare⟩
    cases q : H b with
    | none =>
      refine un.keep b o e q (fun z => ?_) (fun z => nomatch z)
      exact nomatch (show b ∈ ([] : List Addr) from z)
    | some u =>
      rcases hO b with z | ⟨ob, xs, z⟩
      · rw [q] at z
        cases z
      · have now := (hok b _ z).1
        have later := (hok' b _ (un.frzs b ob _ z)).1
        rw [e] at now
        cases now
        exact later

theorem law_callG (KX : K.In s₁.heap) (hns : s₁.heap.Ns mainGlobals mg) (hb : s₁.heap.Ns builtinsNs mb)
    (hbb : ∀ y : Str, y ≠ "__name__" → mb y = bootBuiltins y) (hlim : s₁.heap.NoLimit) (hg : s₁.gens = #[])
    (ha : s₁.heap.get? a = some { cls := .type "list", data := .seq vs.toArray }) (hi : IntsAre vs ns)
    (hl : ns.length ≤ sizeLine) (hr : Room k callerA)
    (F : ∀ base : Heap, K.In base → base.Ns mainGlobals mg → FnG P w K mg base CX k fa fd [x] sp)
    (hbind : ∀ (s : Shared) (u : Value), BindsTo s fd ⟨[u], []⟩ [(x, u)])
    (hsp : ∀ H : Hp, Only H → SqL K H a (ns.map V.int) → sp [.ref a] H (fun v _ => v = .bl true) fun _ _ _ => False)
    (hCX : ∀ H e s', CX [] H s₁ (fun _ _ _ => False) e s' → False) :
    codeAny (model P w) callerA (.call (.ref fa) ⟨[.ref a], []⟩) (Behind s₁) s₁ := by
  have rv := vals_ints hi
  have main := fun H hO hq => call_from (sp := sp) KX hns hb hbb hlim hg ha hr F hbind hCX H hO hq
  cases hk : K.lookup a with
  | some o =>
    have e := KX a o hk
    rw [ha] at e
    cases e
    have h0 : ∀ b : Addr, (none : Option HO) ≠ none → b = a := fun b z => absurd rfl z
    have lv : vs.toArray.size ≤ sizeLine := by
      rw [List.size_toArray, hi.length]
      exact hl
    refine main (fun _ => none) (fun _ => .inl rfl) (hsp _ (fun _ => .inl rfl) ?_)
      (fun b u z => nomatch (show (none : Option HO) = some u from z)) h0 (fun z => absurd rfl z)
    exact .inr ⟨_, vs.toArray, _, hk, rfl, rfl, rfl, lv, by simpa using rv⟩
  | none =>
    let ob : Obj := { cls := .type "list", data := .seq vs.toArray }
    let H : Hp := fun b => if b = a then some (.frz ob (.lst (ns.map V.int))) else none
    have at_a : H a = some (.frz ob (.lst (ns.map V.int))) := if_pos rfl
    have off : ∀ {b : Addr}, b ≠ a → H b = none := fun hb => if_neg hb
    have only : Only H := by
      intro b
      by_cases hb : b = a
      · rw [hb]
        exact .inr ⟨_, _, at_a⟩
      · exact .inl (off hb)
    refine main H only (hsp H only (.inl (.inr ⟨ob, at_a⟩))) (fun b u z => ?_) (fun b z => ?_) (fun _ => hk)
    · by_cases hb : b = a
      · subst hb
        rw [at_a] at z
        cases z
        exact ⟨ha, by rw [List.length_map]; exact hl, vs, _, rv, ha⟩
      · rw [off hb] at z
        cases z
    · by_cases hb : b = a
      · exact hb
      · exact absurd (off hb) z
end

/-- the end of a law's row: as the layer's own, its def a FnG -/
theorem walk_ofG {l : PySem.W.OpenLaw} {n k : Nat} {q : Program} {loose : List Str}
    {XP : (Str → Option Value) → Heap → Prop} {YP : World → Heap → Prop} {d : DefRec}
    {K : Params → PySem.W.Frag} {CX : World → CXT} {sp : World → Sp} {x : Str}
    (hn : l.most = some n) (hn2 : n ≤ sizeLine) (hdf : d.params.defaults = []) (hr : Room k callerA)
    (hY : ∀ (w : World) (h : Heap), YP w h → (K w.params).In h)
    (F : ∀ (w : World) (mg : Str → Option Value) (fa : Addr) (h : Heap), (K w.params).In h →
      h.Ns mainGlobals mg → mg d.name = some (.ref fa) →
      ∃ fd : FuncData, (∀ (s : Shared) (u : Value), BindsTo s fd ⟨[u], []⟩ [(x, u)]) ∧
        ∀ base : Heap, (K w.params).In base → base.Ns mainGlobals mg →
          FnG l.prog w (K w.params) mg base (CX w) k fa fd [x] (sp w))
    (hsp : ∀ (w : World) (H : Hp) (a : Addr) (ns : List Int), ns.length ≤ n → Only H →
      SqL (K w.params) H a (ns.map V.int) → sp w [.ref a] H (fun v _ => v = .bl true) fun _ _ _ => False)
    (hCX : ∀ (w : World) (H : Hp) (s : Shared) (e : Value) (s' : Shared),
      CX w [] H s (fun _ _ _ => False) e s' → False) :
    PySem.W.WalkO q loose XP YP l.row.toRowW d [] (fun f vs => PySem.call f vs) := by
  refine Att.attach_call hn hdf ?_
  intro w s₀ s₁ mg mb fa o pm cd doc a vs ns G Y ho hd hcd hmg hobj hints hlen hg
  obtain ⟨fd, hb, hF⟩ := F w mg fa _ (hY w _ Y) G.T.g hmg
  exact law_callG (hY w _ Y) G.T.g G.T.b G.T.builtins G.T.nolimit hg hobj hints (Nat.le_trans hlen hn2) hr hF hb
    (fun H hO hS => hsp w H a ns hlen hO hS) (fun H e s' => hCX w H s₁ e s')
end Tc
/-! An own exception class is called, with keywords too. -/
namespace Tc
open PySem PySem.Spec PySem.W
open Builtin Builtin.ObjectAttr
section
variable {M : Model} {A : Around} {E : Value → Shared → Prop} {h : Heap} {g : Array GenState} {d : Drawn} {t : Nat} {os : OsState}
variable {nm q : Str} {C N : Addr} {bs bm bmB : List Value} {hdct : Bool} {sn : List Str} {sub : List Value} {ab : Bool}
  {col : Option Bool} {dd : Option Addr} {k0 k1 k2 k3 k5 : Option Value} {B newId initId : String}

theorem check_newA (F : ExcBaseFacts B newId initId bmB) (hT : ∀ X : String, bm.contains (.type X) = bmB.contains (.type X))
    {rest : List Value} {kw : List (Str × Value)} {Q : Unit → Shared → Prop}
    (hC : h.get? C = some (excClassObj nm q C N bs bm hdct sn sub ab col dd k0 k1 k2 k3 k5 newId))
    (hq : Q () ⟨h, g, d, t, os⟩) : wpAny M A (checkBuiltinCall newId ⟨.ref C :: rest, kw⟩) Q E ⟨h, g, d, t, os⟩ := by
  have mine : (Value.ref C :: bm).contains (.type B) = true := by rw [List.contains_cons, hT, F.hasB, Bool.or_true]
  have star := F.noStar
  simp only [checkBuiltinCall, F.newKind, F.newSplit, F.newRow]
  repeat (first
    | refine wpAny_loadPart_at hC ?_
    | (refine wpAny_isSubtype_exc hC ?_; rw [mine])
    | refine wpAny_staticBase_exc hC ?_
    | refine wpAny_madeBy_exc hC ?_
    | simp only [bne_self_eq_false, Bool.false_eq_true, if_false]
    | wp_step)
  exact hq
end
section
variable {prog : Program} {w : World} {A : Around} {E : Value → Shared → Prop} {R : Result → Shared → Prop} {h : Heap}
  {g : Array GenState} {d : Drawn} {t : Nat} {os : OsState}
variable {nm q : Str} {C N : Addr} {bs bm bmB : List Value} {hdct : Bool} {sn : List Str} {sub : List Value} {ab : Bool}
  {col : Option Bool} {dd : Option Addr} {k0 k1 k2 k3 k5 : Option Value} {B newId initId : String}
theorem newA (F : ExcBaseFacts B newId initId bmB) (hT : ∀ X : String, bm.contains (.type X) = bmB.contains (.type X))
    {rest : List Value} {kw : List (Str × Value)}
    (hC : h.get? C = some (excClassObj nm q C N bs bm hdct sn sub ab col dd k0 k1 k2 k3 k5 newId))
    (hq : R (.ok (.ret (.ref (h.objs.size + 1))))
      ⟨(h.push (kdv_tup rest)).push (HandSPX.excO C h.objs.size), g, d, t, os⟩) (hrest : rest.length ≤ sizeLine) :
    codeAny (model prog w) A (.builtin newId ⟨.ref C :: rest, kw⟩) R ⟨h, g, d, t, os⟩ := by
  have hends := F.ends
  have mine : (Value.ref C :: bm).contains (.type B) = true := by rw [List.contains_cons, hT, F.hasB, Bool.or_true]
  have noA : (Value.ref C :: bm).contains (.type "AttributeError") = false := by rw [List.contains_cons, hT, F.noAttr]; rfl
  have noN : (Value.ref C :: bm).contains (.type "NameError") = false := by rw [List.contains_cons, hT, F.noName]; rfl
  refine codeAny_builtinAt F.entry ?_
  unfold Builtin.«BaseException.__new__»
  refine wpAt_bind ?_
  show wpAt _ _ _ (stack >>= _) _ _ _
  refine wpAt_bind (wpAt_stack ?_)
  intro p below
  refine wpAt_of_wpAny ?_
  wp_walk
  refine wpAt_of_wpAny ?_
  rw [F.owner]
  repeat (first
    | with_reducible refine wpAny_madeHere_exc F.canon hC ?_
    | with_reducible refine wpAny_loadPart_at hC ?_
    | (with_reducible refine wpAny_isSubtype_exc hC ?_; first | rw [mine] | rw [noA] | rw [noN])
    | wp_step)
  show R _ _
  rw [Heap.size_push]
  exact hq
/-- type.__call__ on such a class, its __init__ a def -/
theorem typeCallA (F : ExcBaseFacts B newId initId bmB) (hT : ∀ X : String, bm.contains (.type X) = bmB.contains (.type X))
    {rest : List Value} {kw : List (Str × Value)} {fI : Addr} {Q : PySem.Fin → Shared → Prop}
    (hC : h.get? C = some (excClassObj nm q C N bs bm hdct sn sub ab col dd k0 k1 k2 k3 k5 newId))
    (hi : W.Looks (model prog w) h (typeLookup (.ref C) "__init__") (some (.ref fI)))
    (hb : ∀ self, W.Looks (model prog w) h (bindSpecial (.ref fI) self) (.ref fI, [self])) (hrest : rest.length ≤ sizeLine)
    (hq : codeAny (model prog w) A (.call (.ref fI) ⟨.ref (h.objs.size + 1) :: rest, kw⟩)
      (fun r s' => match r with
        | .ok (.ret v) => v = .none ∧ Q (.done (.ret (.ref (h.objs.size + 1)))) s'
        | .ok _ => False
        | .error e => E e s')
      ⟨(h.push (W.kdv_tup rest)).push (HandSPX.excO C h.objs.size), g, d, t, os⟩) :
    wpAny (model prog w) A (Builtin.«type.__call__» ⟨.ref C :: rest, kw⟩) Q E ⟨h, g, d, t, os⟩ := by
  repeat (first
    | with_reducible refine wpAny_loadPart_at hC ?_
    | with_reducible refine wpAny_madeBy_exc hC ?_
    | wp_step)
  refine codeAny_call_builtin_code (Code.quiet_builtin _ F.quiet) (check_newA F hT hC ?_)
  refine newA F hT hC ?_ hrest
  show wpAny _ _ _ _ _ _
  have k : ∀ b o, h.get? b = some o →
      ((h.push (W.kdv_tup rest)).push (HandSPX.excO C h.objs.size)).get? b = some o := fun b o e =>
    Heap.get?_push_of_some _ (Heap.get?_push_of_some _ e)
  have inst : ((h.push (W.kdv_tup rest)).push (HandSPX.excO C h.objs.size)).get? (h.objs.size + 1) =
      some (HandSPX.excO C h.objs.size) := by heap_get
  have later := k _ _ hC
  have own : (Value.ref C :: bm).contains (.ref C) = true := by simp
  have i1 := hi.keeps k
  have b1 := (hb (.ref (h.objs.size + 1))).keeps k
  unfold isInstance
  repeat (first
    | with_reducible refine wpAny_loadPart_at inst ?_
    | (with_reducible refine wpAny_isSubtype_exc later ?_; rw [own])
    | wp_step)
  show wpAny _ _ (typeLookup (.ref C) _) _ _ _
  refine i1.at (wpAny_holding (wpAny_bind (b1.at ?_)))
  refine wpAny_bind (wpAny_call (codeAny_mono hq ?_))
  intro r s' z
  rcases r with e | (v | _ | _ | _) <;> first | exact z | exact z.elim | skip
  obtain ⟨rfl, z⟩ := z
  first
    | exact wpAny_pure (wpAny_pure z)
    | (wp_walk; exact z)

theorem callA (F : ExcBaseFacts B newId initId bmB) (hT : ∀ X : String, bm.contains (.type X) = bmB.contains (.type X))
    {rest : List Value} {kw : List (Str × Value)} {fI : Addr}
    (hC : h.get? C = some (excClassObj nm q C N bs bm hdct sn sub ab col dd k0 k1 k2 k3 k5 newId))
    (hi : W.Looks (model prog w) h (typeLookup (.ref C) "__init__") (some (.ref fI)))
    (hb : ∀ self, W.Looks (model prog w) h (bindSpecial (.ref fI) self) (.ref fI, [self])) (hrest : rest.length ≤ sizeLine)
    (hq : codeAny (model prog w) (A.under (.builtin "type.__call__" ⟨.ref C :: rest, kw⟩))
      (.call (.ref fI) ⟨.ref (h.objs.size + 1) :: rest, kw⟩) (W.InitBack (h.objs.size + 1) R)
      ⟨(h.push (W.kdv_tup rest)).push (HandSPX.excO C h.objs.size), g, d, t, os⟩) :
    codeAny (model prog w) A (.call (.ref C) ⟨rest, kw⟩) R ⟨h, g, d, t, os⟩ := by
  have f1 := PySem.tc_lookup
  have f2 := PySem.tc_bind (.ref C)
  have hTy : (⟨h, g, d, t, os⟩ : Shared).TypeIs (.ref C) "type" := ⟨_, hC, rfl⟩
  refine codeAny_of_tree ?_
  show wpAny _ _ (callAny (.ref C) _) _ _ _
  repeat (any_goals (first
    | assumption
    | with_reducible refine wpAny_loadPart_at hC ?_
    | wp_step))
  refine ⟨rfl, ?_⟩
  refine codeAny_call_builtin_at (Code.quiet_builtin _ (by decide +kernel)) entry_typeCall ?_
  refine wpAny_check_type_call_sub hC (typeCallA F hT hC hi hb hrest ?_)
  refine codeAny_mono hq ?_
  intro r s' z
  rcases r with e | (v | _ | _ | _) <;> exact z
end
end Tc
/-! An own exception class with one field is called: what stands then. -/
namespace Tc
open PySem PySem.Spec PySem.W
open Builtin Builtin.ObjectAttr

/-- what is written of an exception class with an __init__ at fI, over the base B; fld: its field -/
structure ExK (K : Frag) (C fI : Addr) (B newId initId : String) (bmB : List Value) (fld : Str) : Prop where
  base : ExcBaseFacts B newId initId bmB
  store : StoreFacts B bmB "object.__setattr__" "object"
  ini : excInitIn K C bmB newId = true
  over : excOver K C bmB = true
  own : hasDictIn K C = true
  sa : findIn K (.ref C) "__setattr__" = some (some (.builtin "object.__setattr__"))
  tak : takerIn K C fld = some none
  noF : findIn K (.ref C) fld = some none
  iC : findIn K (.ref C) "__init__" = some (some (.ref fI))
  tI : typeIn K (.ref fI) = some (.type "function")
  kp : keepIn K (.ref C) = true
/-- def __init__(self, FLD): self.FLD = FLD -/
structure InitDef (K : Frag) (fI : Addr) (qual fld : Str) (fd : FuncData) : Prop where
  ex : ∃ (oc : Value) (od : Option Addr) (kV doc pm : Value) (an : Option Addr) (cdv ct : Value) (osl : Array (Option Value))
    (pa : Arguments) (sc : Scope) (q1 q2 q3 q4 : Pos),
    fd = fnOf "__init__" qual pa [.Assign [.Attribute (.Name "self" q1) fld q2] (.Name fld q3) q4] sc .none kV doc pm an cdv ct ∧
    sc = { kind := .function, names := [("self", .local), (fld, .local)], isGenerator := false, isCoroutine := false, more := [] } ∧
    K.lookup fI = some ⟨oc, od, .func fd, osl⟩ ∧ codeIn K cdv qual = true

section
variable {prog : Program} {w : World} {A : Around} {E : Value → Shared → Prop} {R : Result → Shared → Prop}
  {hp : Heap} {g : Array GenState} {d : Drawn} {t : Nat} {os : OsState} {K : Frag} {C fI : Addr} {B newId initId : String}
  {bmB : List Value} {fld qual : Str} {fd : FuncData} {x t0 : Addr} {v : Value}
theorem osa_first {tk : Tok} (Z : ExK K C fI B newId initId bmB fld) (X : K.In hp)
    (hx : hp.get? x = some (HandSPX.excO C t0))
    (hq : ∀ h' tk' dx, (∀ b o, b ≠ x → hp.get? b = some o → h'.get? b = some o) → hp.objs.size ≤ dx → dx ≠ x →
      h'.get? x = some { HandSPX.excO C t0 with dict := some dx } →
      h'.Ns1 dx (fun y => if y = fld then some v else none) → R (.ok (.ret .none)) ⟨h', g, d, tk', os⟩) :
    codeAny (model prog w) A (.call (.builtin "object.__setattr__") ⟨[.ref x, .str fld tk, v], []⟩) R ⟨hp, g, d, t, os⟩ := by
  refine osa_openX (od := none) Z.store X ⟨hx, rfl, rfl, trivial⟩ Z.over Z.tak ?_
  intro b
  have hxs : x ≠ hp.objs.size := Nat.ne_of_lt (Heap.lt_size hx)
  obtain ⟨cd, hcd, hh⟩ := any_some Z.own
  have hcls : Looks (model prog w) hp (classData C) cd := looks_clsIn X hcd
  show wpAny _ _ (storeInOwnDict (.ref x) (.ref C) (.str fld tk) fld v b) _ _ _
  obtain ⟨nm, bs, mro, ns, qn, hd, sn, sb, ab, col, del⟩ := cd
  dsimp only at hh
  subst hh
  unfold storeInOwnDict ownDictForStores
  repeat (first
    | with_reducible refine HandSPX.store_in_new ?_ ?_
    | with_reducible refine wpAny_loadPart_at hx ?_
    | with_reducible refine hcls.at ?_
    | wp_step)
  · exact ⟨_, #[], _, (Heap.get?_update_ne _ _ _ _ hxs.symm).trans (Heap.get?_push_at rfl rfl), rfl,
      fun e he => absurd he (by simp), fun _ => rfl⟩
  · intro h' tk' hn' hs
    have hx1 : (hp.push { cls := .type "dict", data := .dict #[] }).get? x = some (HandSPX.excO C t0) :=
      Heap.get?_push_of_some _ hx
    refine hq h' tk' hp.objs.size ?_ (Nat.le_refl _) hxs.symm ?_ hn'
    · intro b o hb ho
      refine (hs.2 b (Nat.ne_of_lt (Heap.lt_size ho))).trans ?_
      exact (Heap.get?_update_ne _ _ _ _ hb).trans (Heap.get?_push_of_some _ ho)
    · exact (hs.2 x hxs).trans (Heap.get?_update_self _ hx1 rfl)
end
end Tc
namespace Tc
open PySem PySem.Spec PySem.W PyProof.Rows
open Builtin Builtin.ObjectAttr
theorem ld_local {M : Model} {s : Shared} {name : Str} {scope : Scope} {L a : Addr} {cd : Value} {m : Str → Option Value}
    {x : Str} {pos : Pos} {v : Value} {Q : Value → Shared → Prop} {A : Around} {E : Value → Shared → Prop}
    (hn : s.heap.Ns L m) (hv : m x = some v) (h : Q v s) (hk : scope.kind = .function := by rfl)
    (hl : (envOfC name scope L a cd).kindOf x = some .local := by rfl) (hd : (x == ("__debug__" : Str)) = false := by decide) :
    wpAny M A (eval (.Name x pos) (envOfC name scope L a cd)) Q E s :=
  wpAny_Name (wpAny_loadName_local hk hl hn hv h) hd
/-- the two names that such a field has -/
def FieldName (fld : Str) : Prop := fld = "given" ∨ fld = "index"
section
variable {prog : Program} {w : World} {A : Around} {E : Value → Shared → Prop} {R : Result → Shared → Prop}
  {s : Shared} {K : Frag} {C fI : Addr} {B newId initId : String}
  {bmB : List Value} {fld qual : Str} {fd : FuncData} {x t0 : Addr} {v : Value}
/-- behind __init__ -/
structure InitDone (h h' : Heap) (x C dx t1 : Addr) (fld : Str) (v : Value) : Prop where
  keep : ∀ b o, b ≠ x → h.get? b = some o → h'.get? b = some o
  obj : h'.get? x = some { HandSPX.excO C t1 with dict := some dx }
  big : h.objs.size ≤ dx
  dne : dx ≠ x
  ns : h'.Ns1 dx (fun y => if y = fld then some v else none)
theorem init_run (Z : ExK K C fI B newId initId bmB fld) (fn : FieldName fld) (D : InitDef K fI qual fld fd) (X : K.In s.heap)
    (hlim : s.heap.NoLimit) (hx : s.heap.get? x = some (HandSPX.excO C t0)) (hroom : A.depth < recursionLimit)
    {args : Args} (hb : BindsTo s fd args [("self", .ref x), (fld, v)])
    (hq : ∀ h' tk dx, InitDone s.heap h' x C dx t0 fld v → R (.ok (.ret .none)) { s with heap := h', toks := tk }) :
    codeAny (model prog w) A (.call (.ref fI) args) R s := by
  obtain ⟨oc, od, kV, doc, pm, an, cdv, ct, osl, pa, sc, q1, q2, q3, q4, rfl, rfl, ho, hcd⟩ := D.ex
  have two : (fld == ("self" : Str)) = false := by rcases fn with rfl | rfl <;> decide
  refine Att.call_fn (binds := [("self", .ref x), (fld, v)]) X hlim ho hcd hroom hb
    (by rcases fn with rfl | rfl <;> first | rfl | decide | with_unfolding_all rfl) (fun s1 IC => ?_) rfl rfl rfl
  obtain ⟨h1, tk1, rfl⟩ := IC.toInCall.same
  have k : ∀ b o, s.heap.get? b = some o → h1.get? b = some o := IC.toInCall.keep
  have hn := IC.toInCall.ns
  have X1 : K.In h1 := X.keeps k
  have hx1 := k _ _ hx
  show wpAny _ _ (execs _ _) _ _ _
  refine wpAny_execs_cons (plainObj_wpAny_Assign_Attribute ?_)
  refine ld_local (v := v) hn ?_ (ld_local (v := .ref x) hn ?_ ?_ rfl ?_) rfl ?_ ?_
  · rcases fn with rfl | rfl <;> first | rfl | with_unfolding_all rfl | kernel_rfl
  · rcases fn with rfl | rfl <;> first | rfl | with_unfolding_all rfl | kernel_rfl
  · refine set_plain X1 (ox := HandSPX.excO C t0) (od := none) ⟨hx1, rfl, rfl, trivial⟩ Z.sa ?_
    refine osa_first Z X1 hx1 (fun h3 tk3 dx k3 dn dne hx3 hn3 => ?_)
    show wpAny _ _ (execs _ _) _ _ _
    have z : s.heap.objs.size < h1.objs.size := hn.lt
    exact wpAny_execs_nil (hq h3 tk3 dx ⟨fun b o hb e => k3 b o hb (k b o e), hx3,
      Nat.le_of_lt (Nat.lt_of_lt_of_le z dn), dne, hn3⟩)
  · rcases fn with rfl | rfl <;> rfl
  · rcases fn with rfl | rfl <;> rfl
  · rcases fn with rfl | rfl <;> decide

/-- a new exception, its field -/
structure MadeX (h h' : Heap) (e C d : Addr) (fld : Str) (v : Value) : Prop where
  keep : ∀ b o, h.get? b = some o → h'.get? b = some o
  new : h.objs.size ≤ e
  obj : ∃ t1 : Addr, h'.get? e = some { HandSPX.excO C t1 with dict := some d }
  big : h.objs.size ≤ d
  dne : d ≠ e
  ns : h'.Ns1 d (fun y => if y = fld then some v else none)
theorem made_run (Z : ExK K C fI B newId initId bmB fld) (fn : FieldName fld) (D : InitDef K fI qual fld fd) (X : K.In s.heap)
    (hlim : s.heap.NoLimit) (hroom : A.depth + 1 < recursionLimit) {rest : List Value} {kw : List (Str × Value)} (hz : rest.length ≤ sizeLine)
    (hb : ∀ (s : Shared) (y : Addr), BindsTo s fd ⟨.ref y :: rest, kw⟩ [("self", .ref y), (fld, v)])
    (hq : ∀ h' tk e d, MadeX s.heap h' e C d fld v → R (.ok (.ret (.ref e))) { s with heap := h', toks := tk }) :
    codeAny (model prog w) A (.call (.ref C) ⟨rest, kw⟩) R s := by
  obtain ⟨nm, N', qn, bs, bm, hdct, sn, sub, ab, col, dd, k0, k1, k2, k3, k5, hC, hT⟩ := excInit_of X Z.ini
  obtain ⟨hp, g, dr, tk, os⟩ := s
  have k : ∀ b o, hp.get? b = some o → ((hp.push (kdv_tup rest)).push (HandSPX.excO C hp.objs.size)).get? b = some o :=
    fun b o e => Heap.get?_push_of_some _ (Heap.get?_push_of_some _ e)
  have hget : ((hp.push (kdv_tup rest)).push (HandSPX.excO C hp.objs.size)).get? (hp.objs.size + 1) =
      some (HandSPX.excO C hp.objs.size) := by heap_get
  refine callA Z.base hT hC (looks_findIn X Z.iC) (fun self => bind_fn X self Z.tI) hz ?_
  refine init_run (s := ⟨(hp.push (kdv_tup rest)).push (HandSPX.excO C hp.objs.size), g, dr, tk, os⟩) Z fn D
    (X.keeps k) (hlim.keeps k) hget ?_ (hb _ _) ?_
  · have e : (A.under (.builtin "type.__call__" ⟨.ref C :: rest, kw⟩)).depth = A.depth + 1 := L2.make_depth
    omega
  · rintro h' tk' dx ⟨k', hx, dn, dne, hns⟩
    have z : hp.objs.size + 1 + 1 ≤ dx := by
      have q := dn
      rw [Heap.size_push, Heap.size_push] at q
      exact q
    refine ⟨rfl, hq h' tk' (hp.objs.size + 1) dx ⟨fun b o e => ?_, Nat.le_succ _, ⟨_, hx⟩,
      Nat.le_trans (Nat.le_trans (Nat.le_succ _) (Nat.le_succ _)) z, dne, hns⟩⟩
    exact k' b o (Nat.ne_of_lt (Nat.lt_succ_of_lt (Heap.lt_size e))) (k b o e)
end
end Tc
/-! Exceptions as values, tracked: made, asked for their class, their field read. -/
namespace Tc
open PySem PySem.Spec PyProof.Rows L2

/-- at a an exception of the class at C with its dict at d, which holds the field alone -/
structure ExAt (H : Hp) (a C d : Addr) (fld : Str) (v : V) : Prop where
  ob : H a = some (exo a C (some d))
  di : H d = some (exd d [(fld, v)])

section
variable {X : Cx} {pins : List (Addr × Obj)} {σ : L2.St} {H : Hp} {C fI e d : Addr} {B newId initId : String}
  {bmB : List Value} {fld qual : Str} {fd : FuncData} {v : V} {u : Value}

theorem relO_one (rv : RelV v u) (f : Str) : RelO (List.lookup f [(fld, v)]) (if f = fld then some u else none) :=
  relO_put (fs := []) (mA := fun _ => none) rv (fun _ => True.intro) f

theorem made_inv {hp h' : Heap} {g : Array GenState} {dr : Drawn} {tk tk' : Nat} {os : OsState}
    (I : Inv X pins σ H ⟨hp, g, dr, tk, os⟩) (M : MadeX hp h' e C d fld u) (rv : RelV v u) :
    H e = none ∧ H d = none ∧ d ≠ e ∧
      Inv X pins σ (upd (upd H d (exd d [(fld, v)])) e (exo e C (some d))) ⟨h', g, dr, tk', os⟩ := by
  have he : H e = none := I.hok.fresh M.new
  have hd : H d = none := I.hok.fresh M.big
  refine ⟨he, hd, M.dne, ?_⟩
  obtain ⟨t1, hobj⟩ := M.obj
  obtain ⟨G, g1, g2⟩ := restrict h' fun b => decide (b ≠ e)
  have gk : ∀ b, b ≠ e → G.get? b = h'.get? b := fun b hb => g1 b (decide_eq_true hb)
  have ge : G.get? e = none := g2 e (by simp)
  have old : ∀ b o, hp.get? b = some o → G.get? b = some o := by
    intro b o q
    have hb : b ≠ e := Nat.ne_of_lt (Nat.lt_of_lt_of_le (Heap.lt_size q) M.new)
    rw [gk b hb]
    exact M.keep b o q
  have one : ObjOk X.prog X.w (upd H d (exd d [(fld, v)])) G d (exd d [(fld, v)]) :=
    exd_ok (M.ns.at fun o q => (gk d M.dne).trans q) (relO_one rv)
  have J := I.laid (t' := tk') old M.big one
  have up : ∀ b o, G.get? b = some o → h'.get? b = some o := by
    intro b o q
    by_cases hb : b = e
    · rw [hb, ge] at q
      cases q
    · exact (gk b hb).symm.trans q
  have he2 : upd H d (exd d [(fld, v)]) e = none := by
    rw [upd_ne M.dne.symm]
    exact he
  have un : Un X.fs [] (upd H d (exd d [(fld, v)])) (upd (upd H d (exd d [(fld, v)])) e (exo e C (some d))) G h' := {
    keep := fun b o q _ _ _ => up b o q
    slot := fun b o q _ _ _ => ⟨o.slots, up b o q⟩
    free := fun b o q n _ => by
      rw [upd_ne (fun z => by rw [z, ge] at q; cases q)]
      exact n
    there := fun b o q _ => ⟨o, up b o q⟩
    tups := fun b xs q => by
      rw [upd_ne (ne_of_none q he2)]
      exact q
    frzs := fun b o w q => by
      rw [upd_ne (ne_of_none q he2)]
      exact q
    tbls := fun b ps q => ⟨#[], by rw [upd_ne (ne_of_none q he2), q]; simp⟩ }
  refine J.un (t' := tk') un ?_
  intro b o q
  by_cases hb : b = e
  · subst hb
    rw [upd_same] at q
    cases q
    exact exo_ok hobj
  · rw [upd_ne hb] at q
    refine (J.hok b o q).stay (fun c w _ z => up c w z) (fun c z => ?_) (fun c xs z => ?_)
    · rw [upd_ne (ne_of_none z he2)]
      exact z
    · rw [upd_ne (ne_of_none z he2)]
      exact z

/-- X(e) | X(FLD=e): a new exception, its dict -/
def tNewX (C : Addr) (fld : Str) (te : TE) : TE := fun σ H Q => te σ H fun v H1 => ∀ a d, H1 a = none → H1 d = none → d ≠ a →
  Q (.ref a) (upd (upd H1 d (exd d [(fld, v)])) a (exo a C (some d)))
theorem run_newX {s : Shared} {Q : VK} {rest : List Value} {kw : List (Str × Value)} {k : Nat}
    (Z : ExK X.K C fI B newId initId bmB fld) (fn : FieldName fld) (D : InitDef X.K fI qual fld fd)
    (hr : Room k X.A) (hz : rest.length ≤ sizeLine)
    (hb : ∀ (s : Shared) (y : Addr), BindsTo s fd ⟨.ref y :: rest, kw⟩ [("self", .ref y), (fld, u)])
    (I : Inv X pins σ H s) (rv : RelV v u)
    (h : ∀ a d, H a = none → H d = none → d ≠ a → Q (.ref a) (upd (upd H d (exd d [(fld, v)])) a (exo a C (some d)))) :
    wpAny (model X.prog X.w) X.A (call (.ref C) rest kw) (EP X pins σ Q) X.xe s := by
  obtain ⟨hp, g, dr, tk, os⟩ := s
  refine wpAny_call (made_run Z fn D I.kIn I.nolimit (by have := hr.dp; omega) hz hb ?_)
  intro h' tk' e d M
  obtain ⟨he, hd, ne, J⟩ := made_inv (tk' := tk') I M rv
  exact ⟨.ref e, _, J, rfl, h e d he hd ne⟩
variable {x : Str} {p pos : Pos} {ee : Expr} {te : TE} {k : Nat}
theorem pe_newX (Z : ExK X.K C fI B newId initId bmB fld) (fn : FieldName fld) (D : InitDef X.K fI qual fld fd)
    (hr : Room k X.A) (hb : ∀ (u : Value) (s : Shared) (y : Addr), BindsTo s fd ⟨[.ref y, u], []⟩ [("self", .ref y), (fld, u)])
    (hg : Gl X x) (hm : X.mg x = some (.ref C)) (he : PE X ee te)
    (hs : starEach [ee] X.env = (false, eval ee X.env) :: starEach [] X.env := by rfl)
    (hdb : (x == ("__debug__" : Str)) = false := by decide) :
    PE X (.Call (.Name x p) [ee] [] pos) (tNewX C fld te) := by
  constructor
  intro pins s σ H Q I h
  refine wpAny_Call_Name_kw (ld_glob I hg hm ?_ hdb)
  refine PySem.W.callWith_K (h₀ := X.base) I.ok.mod.kin Z.kp ?_ hs (by rfl)
  rw [hs]
  show wpAny _ _ (spliced ((false, eval ee X.env) :: backTo pos (starEach [] X.env))) _ _ s
  refine Calls.spliced_cons (thn (he.run pins s σ H _ I h) ?_)
  rintro u s1 ⟨v, H1, I1, r1, q1⟩
  refine Calls.spliced_nil ⟨I1.kIn, ?_⟩
  exact run_newX (kw := []) Z fn D hr (by rw [sizeLine_eq]; show 1 ≤ 16777216; decide) (fun s y => hb u s y) I1 r1 q1
theorem pe_newXk {kpos : Pos} (Z : ExK X.K C fI B newId initId bmB fld) (fn : FieldName fld) (D : InitDef X.K fI qual fld fd)
    (hr : Room k X.A) (hb : ∀ (u : Value) (s : Shared) (y : Addr), BindsTo s fd ⟨[.ref y], [(fld, u)]⟩ [("self", .ref y), (fld, u)])
    (hg : Gl X x) (hm : X.mg x = some (.ref C)) (he : PE X ee te)
    (hall : (backToKw pos (keywordEach [⟨some fld, ee, kpos⟩] X.env)).all (·.1.isSome) = true := by rfl)
    (hks : (backToKw pos (keywordEach [⟨some fld, ee, kpos⟩] X.env)).filterMap (·.1) = [fld] := by rfl)
    (hpl : ((backTo pos (starEach [] X.env)).any (·.1) || (backToKw pos (keywordEach [⟨some fld, ee, kpos⟩] X.env)).any (·.1.isNone)) = false := by rfl)
    (hdb : (x == ("__debug__" : Str)) = false := by decide) :
    PE X (.Call (.Name x p) [] [⟨some fld, ee, kpos⟩] pos) (tNewX C fld te) := by
  constructor
  intro pins s σ H Q I h
  refine wpAny_Call_Name_kw (ld_glob I hg hm ?_ hdb)
  have kws : PK X [⟨some fld, ee, kpos⟩] (tCons te tNil) := pk_cons he pk_nil
  refine PySem.W.callWith_KW0 (h₀ := X.base) I.ok.mod.kin Z.kp hall
    (thn (kws.run pos pins s σ H (fun zs H1 => match zs with
      | [v] => ∀ a d, H1 a = none → H1 d = none → d ≠ a → Q (.ref a) (upd (upd H1 d (exd d [(fld, v)])) a (exo a C (some d)))
      | _ => False) I ?_) ?_) hpl
  · show te σ H _
    exact h
  · rintro ws s1 ⟨zs, H1, I1, rz, q1⟩
    match zs, q1 with
    | [v], q1 =>
    obtain ⟨u, rfl, ru⟩ := vals1 rz
    refine ⟨I1.kIn, ?_⟩
    rw [hks]
    exact run_newX (rest := []) Z fn D hr (by rw [sizeLine_eq]; decide) (fun s y => hb u s y) I1 ru q1
/-- what isinstance and a field's read ask of an exception's class -/
structure ExA (K : PySem.W.Frag) (C : Addr) : Prop where
  ga : PySem.W.findIn K (.ref C) "__getattribute__" = some (some (.builtin "BaseException.__getattribute__"))
  gg : PySem.W.findIn K (.ref C) "__getattr__" = some none
  ex : PySem.W.subIn K (.ref C) (.type "BaseException") = some true
  own : PySem.W.hasDictIn K C = true
  kc : PySem.W.findIn K (.ref C) "__class__" = some (some (.builtin "object.__class__"))
  sn : PySem.W.specialIn K (.builtin "object.__class__") "__get__" = some (some (.builtin "getset_descriptor.__get__"))
  tk : PySem.W.takesIn K (.builtin "object.__class__") = some true
  mo : PySem.W.mroIn K C (.type "object") = some true
theorem inst_ex {s : Shared} {C a : Addr} {od : Option Addr} (I : Inv X pins σ H s) (h : H a = some (exo a C od))
    (hd : ∀ d, od = some d → ∃ fs, H d = some (exd d fs)) : ∃ oe oo, PySem.W.InstAt s.heap a oe C oo ∧
      (∀ d, od = some d → ∃ o, oo = some o ∧ s.heap.get? d = some o) := by
  obtain ⟨t1, ho⟩ := exo_at I.hok h
  cases od with
  | none => exact ⟨_, none, ⟨ho, rfl, rfl, trivial⟩, fun d e => nomatch e⟩
  | some d =>
    obtain ⟨fs, hf⟩ := hd d rfl
    obtain ⟨mA, hns, _⟩ := exd_at I.hok hf
    obtain ⟨o, ho2, _⟩ := lookIn_ns hns
    exact ⟨_, some o, ⟨ho, rfl, rfl, ho2⟩, fun d' e => by cases e; exact ⟨o, rfl, ho2⟩⟩
/-- isinstance(e, c), e a tracked exception -/
def rIsX (K : PySem.W.Frag) : List V → Hp → VK → Prop := fun xs H Q => ∃ (a C : Addr) (od : Option Addr) (c : V) (cv : Value) (b : Bool),
  xs = [.ref a, c] ∧ H a = some (exo a C od) ∧ (∀ d, od = some d → ∃ fs, H d = some (exd d fs)) ∧ ExA K C ∧ ClsV c cv ∧
  PySem.W.kitOne K (.ref C) cv = some b ∧ Q (.bl b) H
theorem call_isX : CallR X (.builtin "isinstance") (rIsX X.K) := by
  intro pins s σ H xs us Q I r h
  obtain ⟨a, C, od, c, cv, b, rfl, ha, hd, T, hc, e, q⟩ := h
  cases r with
  | cons rx rr =>
    cases rr with
    | cons rt rr =>
      cases rr
      cases rx
      have ec := hc.eq rt
      subst ec
      obtain ⟨oe, oo, J, _⟩ := inst_ex I ha hd
      have cl : (PySem.W.clsIn X.K C).isSome = true := by
        obtain ⟨cd, hcd, _⟩ := PySem.W.any_some T.own
        rw [hcd]
        rfl
      refine PySem.W.kia_one (PySem.W.kitx_exc cl T.ga T.gg T.ex T.kc T.sn T.tk T.mo) I.kIn J e (fun z => nomatch z) ?_
      intro tk
      exact ⟨.bl b, H, I.kept (t' := tk) fun _ _ z => z, rfl, q⟩
/-- e.FLD, e a tracked exception -/
def tXfld (K : PySem.W.Frag) (fld : Str) (te : TE) : TE := fun σ H Q => te σ H fun x H1 => ∃ (a C d : Addr) (fs : List (Str × V)) (v : V),
  x = .ref a ∧ H1 a = some (exo a C (some d)) ∧ H1 d = some (exd d fs) ∧ ExA K C ∧ PySem.W.findIn K (.ref C) fld = some none ∧
  fs.lookup fld = some v ∧ Q v H1
theorem pe_xfld {n : Str} (he : PE X ee te) (hb : attributeBase ee n X.env (eval ee X.env) = eval ee X.env := by rfl) :
    PE X (.Attribute ee n pos) (tXfld X.K n te) := by
  constructor
  intro pins s σ H Q I h
  refine attr_of hb (thn (he.run pins s σ H _ I h) ?_)
  rintro u s1 ⟨x, H1, I1, rx, a, C, d, fs, v, rfl, ha, hd, T, hno, hl, q⟩
  obtain rfl : u = Value.ref a := rx
  obtain ⟨oe, oo, J, hoo⟩ := inst_ex I1 ha (fun d' e => by cases e; exact ⟨fs, hd⟩)
  obtain ⟨o, rfl, ho⟩ := hoo d rfl
  obtain ⟨mA, hns, hr⟩ := exd_at I1.hok hd
  obtain ⟨o2, ho2, hlk⟩ := lookIn_ns hns
  rw [ho] at ho2
  cases ho2
  obtain ⟨w, hw, rw'⟩ := RelO.some_of (v := v) (o := mA n) (by rw [← hl]; exact hr n)
  refine HandSPX.exc_get I1.kIn J T.ga T.gg T.ex (PySem.W.findObj_own T.own hno rfl (by rw [hlk, hw])) (handed_of rw') ?_
  exact ⟨v, H1, I1.tok _, rw', q⟩
end
end Tc
namespace Tc
open PySem PySem.Spec PyProof.Rows L2
section
variable {X : Cx} {C : Addr} {B newId initId : String} {bmB : List Value} {x : Str} {p pos : Pos}
/-- X(), an own exception class without an own __init__ -/
def tNewX0 (C : Addr) : TE := fun _ H Q => ∀ a, H a = none → Q (.ref a) (upd H a (exo a C none))
theorem pe_newX0 (F : ExcBaseFacts B newId initId bmB) (q : PySem.W.excIn X.K C bmB newId = true)
    (gC : X.mg x = some (.ref C)) (kC : PySem.W.keepIn X.K (.ref C) = true) (hg : Gl X x)
    (hdb : (x == ("__debug__" : Str)) = false := by decide) :
    PE X (.Call (.Name x p) [] [] pos) (tNewX0 C) := by
  constructor
  intro pins s σ H Q I h
  refine wpAny_Call_Name_kw (ld_glob I hg gC ?_ hdb)
  refine PySem.W.callWith_K0 I.kIn kC ?_
  obtain ⟨bm, N, nm, qn, bs, hdct, sn, sub, ab, col, dd, k0, k1, k2, k3, k5, mN, hC, hN, hni, T⟩ := exc_obj I.kIn q
  refine wpAny_call_exc_subT F T hC hN hni ?_ (by show 0 ≤ sizeLine; omega)
  intro h' a hm
  have hn : H a = none := I.hok.gone hm.new
  obtain ⟨t, ht, _, _⟩ := hm.there
  exact ⟨.ref a, _, I.laidN hm.keeps hm.new hn (exo_ok ht), rfl, h a hn⟩
end
end Tc
/-! The head's facts by one Bool and the functions by their texts; what makes a new exception. -/
namespace Tc
open PySem PySem.Spec PyProof.Rows L2

/-- what objects name: the values of dicts, the names of classes, the code of functions -/
def valsOf (o : Obj) : List Addr := match o.data with
  | .dict es _ => es.toList.flatMap fun e => He.refV e.val
  | _ => []
def nsOf (o : Obj) : List Addr := match o.data with
  | .cls cd => [cd.ns]
  | _ => []
def codeOf (o : Obj) : List Addr := match o.data with
  | .func fd => He.refV fd.code
  | _ => []
def reach (g : Addr → Option Obj) (f : Obj → List Addr) (as : List Addr) : List Addr := as.flatMap fun a => match g a with
  | some o => f o
  | none => []
/-- the module's names, what they stand for, the classes' names, their methods, the codes of all -/
def adsM (g : Addr → Option Obj) : List Addr :=
  let l1 := reach g valsOf [mainGlobals]
  let l2 := reach g nsOf l1
  let l3 := reach g valsOf l2
  mainGlobals :: sysModules :: (l1 ++ (l2 ++ (l3 ++ reach g codeOf (l1 ++ l3))))
/-- that part of the heap -/
def frM (g : Addr → Option Obj) : PySem.W.Frag := He.frG g (adsM g)
def obsM (F : PySem.W.Frag → Bool) (fn : List He.FnD) (K : PySem.W.Frag) : He.Al :=
  (F K && fn.all fun d => PySem.W.keepIn K (.ref (He.fAd K d.at_)) && (He.Fa.code d.at_ d.qual).ok K, fn.map fun d => He.fnObs K d.at_)
def SaysM (F : PySem.W.Frag → Bool) (fn : List He.FnD) (K : PySem.W.Frag) : Prop := obsM F fn K = He.valE fn
def obsMG (F : PySem.W.Frag → Bool) (fn : List He.FnD) (g : Addr → Option Obj) : He.Al := obsM F fn (frM g)
def hookM (F : PySem.W.Frag → Bool) (fn : List He.FnD) : PySem.W.Hook where
  α := He.Al
  obs := fun s => obsMG F fn s.heap.get?
  val := fun _ => He.valE fn
  says := fun _ h => ∃ K : PySem.W.Frag, K.In h ∧ SaysM F fn K
  of := fun _ _ e => ⟨_, He.frG_in, e⟩
  keeps := fun _ _ _ ⟨K, hK, c⟩ k => ⟨K, PySem.W.Frag.In.keeps hK k, c⟩
theorem obsMG_eq {F : PySem.W.Frag → Bool} {fn : List He.FnD} {g : Addr → Option Obj} {s : Shared}
    (h : ∀ a, g a = s.heap.get? a) : obsMG F fn g = (hookM F fn).obs s := by
  have e : g = s.heap.get? := funext h
  rw [e] <;> rfl
section
variable {F : PySem.W.Frag → Bool} {fn : List He.FnD} {K : PySem.W.Frag}
theorem SaysM.fact (c : SaysM F fn K) : F K = true :=
  (He.ba (congrArg (fun z : He.Al => z.1) c)).1
/-- the def d of the text stands, and is called so -/
theorem SaysM.fun_ (c : SaysM F fn K) (i : Nat) {st : Stmt} {p : Str × Option Str} {x q : Str}
    (h : fn[i]? = some ⟨p, x, q, defArgs st, defBody st, defScope st⟩ := by rfl) :
    ∃ fd, Fun K x q st (He.fAd K p) fd := by
  have c1 := (He.ba (show (F K && fn.all fun d => PySem.W.keepIn K (.ref (He.fAd K d.at_)) && (He.Fa.code d.at_ d.qual).ok K) = true from
    congrArg (fun z : He.Al => z.1) c)).2
  have c2 := List.all_eq_true.mp c1 _ (List.mem_of_getElem? h)
  obtain ⟨kp, cd⟩ := He.ba c2
  have e : fn.map (fun d => He.fnObs K d.at_) = fn.map He.FnD.val := congrArg (fun z : He.Al => z.2) c
  have e2 : (fn.map fun d => He.fnObs K d.at_)[i]? = (fn.map He.FnD.val)[i]? := by rw [e]
  rw [List.getElem?_map, List.getElem?_map, h] at e2
  obtain ⟨oc, od, osl, kV, doc, pm, an, cdv, ct, lk, hc⟩ := He.fn_ok (Option.some.inj e2) cd
  exact ⟨_, fun_mk lk hc kp⟩
end

/-- a statement, then the rest, a word between them -/
def tMid (t u : TS) : TS := fun D σ H => ∃ M : L2.St → Hp → Prop, t { D with nx := M } σ H ∧ ∀ σ' H', M σ' H' → u D σ' H'
theorem pss_mid {X : Cx} {st : Stmt} {rest : List Stmt} {t u : TS} (h1 : PS X st t) (h2 : PSs X rest u) : PSs X (st :: rest) (tMid t u) := by
  constructor
  intro pins s σ H D I h
  obtain ⟨M, hm, hu⟩ := h
  refine wpAny_execs_cons (thn (h1.run pins s σ H { D with nx := M } I hm) ?_)
  intro f s1 q
  cases f with
  | next =>
    obtain ⟨σ', H', I', q⟩ := q
    exact h2.run pins s1 σ' H' D I' (hu σ' H' q)
  | ret v | brk | cont => exact q

/-- a def by its name: what it keeps, how it is called -/
structure Call (P : Program) (w : World) (K : PySem.W.Frag) (mg : Str → Option Value) (base : Heap) (CX : CXT)
    (k : Nat) (x : Str) (ps : List Str) (sp : Sp) : Prop where
  ex : ∃ f fd, FnG P w K mg base CX k f fd ps sp ∧ mg x = some (.ref f) ∧ PySem.W.keepIn K (.ref f) = true ∧ Binds K fd ps []
section
variable {X : Cx} {CX : CXT} {k : Nat} {ps : List Str} {sp : Sp} {E : XK} {x : Str} {p pos : Pos} {e : Expr} {es : List Expr} {t : TA}
theorem pe_do (F : Call X.prog X.w X.K X.mg X.base CX k x ps sp) (hr : Room k X.A)
    (hgd : X.A.guards = some []) (hg : Gl X x) (hx : Passes CX X E) (ha : PA X (e :: es) t)
    (hdb : (x == ("__debug__" : Str)) = false := by decide)
    (he : starEach (e :: es) X.env = (false, eval e X.env) :: starEach es X.env := by rfl)
    (hpl : (backTo pos (starEach es X.env)).any (·.1) = false := by rfl) :
    PE X (.Call (.Name x p) (e :: es) [] pos) (tCall sp [] E t) := by
  obtain ⟨f, fd, G, hm, hk, hb⟩ := F.ex
  exact pe_callG G hr hgd hg hm hk hb .nil hx ha hdb he hpl
end

/-- what a class like «class X(BASE): def __init__(self, FLD): self.FLD = FLD» needs to be made -/
structure NewAble (K : PySem.W.Frag) (mg : Str → Option Value) (x fld : Str) (C : Addr) : Prop where
  ex : ∃ (fI : Addr) (B newId initId : String) (bmB : List Value) (qual : Str) (fd : FuncData),
    ExK K C fI B newId initId bmB fld ∧ FieldName fld ∧ InitDef K fI qual fld fd ∧
    (∀ (u : Value) (s : Shared) (y : Addr), BindsTo s fd ⟨[.ref y, u], []⟩ [("self", .ref y), (fld, u)]) ∧
    ∀ (u : Value) (s : Shared) (y : Addr), BindsTo s fd ⟨[.ref y], [(fld, u)]⟩ [("self", .ref y), (fld, u)]
  gm : mg x = some (.ref C)
section
variable {X : Cx} {C : Addr} {x fld : Str} {p pos : Pos} {ee : Expr} {te : TE} {k : Nat}
theorem pe_new (N : NewAble X.K X.mg x fld C) (hr : Room k X.A) (hg : Gl X x) (he : PE X ee te)
    (hs : starEach [ee] X.env = (false, eval ee X.env) :: starEach [] X.env := by rfl)
    (hdb : (x == ("__debug__" : Str)) = false := by decide) :
    PE X (.Call (.Name x p) [ee] [] pos) (tNewX C fld te) := by
  obtain ⟨fI, B, newId, initId, bmB, qual, fd, Z, fn, D, b1, b2⟩ := N.ex
  exact pe_newX Z fn D hr b1 hg N.gm he hs hdb
theorem pe_newk {kpos : Pos} (N : NewAble X.K X.mg x fld C) (hr : Room k X.A) (hg : Gl X x) (he : PE X ee te)
    (hall : (backToKw pos (keywordEach [⟨some fld, ee, kpos⟩] X.env)).all (·.1.isSome) = true := by rfl)
    (hks : (backToKw pos (keywordEach [⟨some fld, ee, kpos⟩] X.env)).filterMap (·.1) = [fld] := by rfl)
    (hpl : ((backTo pos (starEach [] X.env)).any (·.1) || (backToKw pos (keywordEach [⟨some fld, ee, kpos⟩] X.env)).any (·.1.isNone)) = false := by rfl)
    (hdb : (x == ("__debug__" : Str)) = false := by decide) :
    PE X (.Call (.Name x p) [] [⟨some fld, ee, kpos⟩] pos) (tNewX C fld te) := by
  obtain ⟨fI, B, newId, initId, bmB, qual, fd, Z, fn, D, b1, b2⟩ := N.ex
  exact pe_newXk Z fn D hr b2 hg N.gm he hall hks hpl hdb
end

/-! ### the facts of an exception class, told by a Bool -/
/-- the three bases: the built-in class under which a class stands -/
inductive Kin where
  | v | l | a
def Kin.B : Kin → String
  | .v => "ValueError"
  | .l => "LookupError"
  | .a => "ArithmeticError"
def Kin.new : Kin → String
  | .v => "ValueError.__new__"
  | .l => "LookupError.__new__"
  | .a => "ArithmeticError.__new__"
def Kin.ini : Kin → String
  | .v => "ValueError.__init__"
  | .l => "LookupError.__init__"
  | .a => "ArithmeticError.__init__"
def Kin.mro (k : Kin) : List Value := [.type k.B, .type "Exception", .type "BaseException", .type "object"]
theorem Kin.base : ∀ k : Kin, ExcBaseFacts k.B k.new k.ini k.mro
  | .v => PySem.F.excBase_ValueError
  | .l => PySem.F.excBase_LookupError
  | .a => PySem.F.excBase_ArithmeticError
theorem Kin.store : ∀ k : Kin, StoreFacts k.B k.mro "object.__setattr__" "object"
  | .v => PySem.F.store_ValueError
  | .l => PySem.F.store_LookupError
  | .a => PySem.F.store_ArithmeticError
def exkB (K : PySem.W.Frag) (k : Kin) (x fld : Str) : Bool :=
  let C := He.ga K x
  PySem.W.excInitIn K C k.mro k.new && (PySem.W.excOver K C k.mro && (PySem.W.hasDictIn K C &&
  (He.eqO (PySem.W.findIn K (.ref C) "__setattr__") (some (some (.builtin "object.__setattr__"))) &&
  (He.eqO (PySem.W.takerIn K C fld) (some none) && (He.eqO (PySem.W.findIn K (.ref C) fld) (some none) &&
  (He.eqO (PySem.W.findIn K (.ref C) "__init__") (some (some (.ref (He.ma K C "__init__")))) &&
  (decide (PySem.W.typeIn K (.ref (He.ma K C "__init__")) = some (.type "function")) && PySem.W.keepIn K (.ref C))))))))
theorem exkB_ok {K : PySem.W.Frag} {k : Kin} {x fld : Str} (h : exkB K k x fld = true) :
    ExK K (He.ga K x) (He.ma K (He.ga K x) "__init__") k.B k.new k.ini k.mro fld := by
  obtain ⟨h1, h⟩ := He.ba h
  obtain ⟨h2, h⟩ := He.ba h
  obtain ⟨h3, h⟩ := He.ba h
  obtain ⟨h4, h⟩ := He.ba h
  obtain ⟨h5, h⟩ := He.ba h
  obtain ⟨h6, h⟩ := He.ba h
  obtain ⟨h7, h⟩ := He.ba h
  obtain ⟨h8, h9⟩ := He.ba h
  exact ⟨k.base, k.store, h1, h2, h3, He.eqO_ok h4, He.eqO_ok h5, He.eqO_ok h6, He.eqO_ok h7, of_decide_eq_true h8, h9⟩
def exaB (K : PySem.W.Frag) (x : Str) : Bool :=
  let C := He.ga K x
  He.eqO (PySem.W.findIn K (.ref C) "__getattribute__") (some (some (.builtin "BaseException.__getattribute__"))) &&
  (He.eqO (PySem.W.findIn K (.ref C) "__getattr__") (some none) &&
  (decide (PySem.W.subIn K (.ref C) (.type "BaseException") = some true) && (PySem.W.hasDictIn K C &&
  (He.eqO (PySem.W.findIn K (.ref C) "__class__") (some (some (.builtin "object.__class__"))) &&
  decide (PySem.W.mroIn K C (.type "object") = some true)))))
def exsB (K : PySem.W.Frag) : Bool :=
  He.eqO (PySem.W.specialIn K (.builtin "object.__class__") "__get__") (some (some (.builtin "getset_descriptor.__get__"))) &&
  decide (PySem.W.takesIn K (.builtin "object.__class__") = some true)
theorem exaB_ok {K : PySem.W.Frag} {x : Str} (h : exaB K x = true) (s : exsB K = true) : ExA K (He.ga K x) := by
  obtain ⟨h1, h⟩ := He.ba h
  obtain ⟨h2, h⟩ := He.ba h
  obtain ⟨h3, h⟩ := He.ba h
  obtain ⟨h4, h⟩ := He.ba h
  obtain ⟨h5, h6⟩ := He.ba h
  obtain ⟨s1, s2⟩ := He.ba s
  exact ⟨He.eqO_ok h1, He.eqO_ok h2, of_decide_eq_true h3, h4, He.eqO_ok h5, He.eqO_ok s1, of_decide_eq_true s2, of_decide_eq_true h6⟩

/-- its __init__, of the text st -/
theorem init_of {K : PySem.W.Frag} {f : Addr} {fd : FuncData} {qual fld : Str} {st : Stmt} {q1 q2 q3 q4 : Pos}
    (F : Fun K "__init__" qual st f fd)
    (hb : defBody st = [.Assign [.Attribute (.Name "self" q1) fld q2] (.Name fld q3) q4])
    (hs : defScope st = { kind := .function, names := [("self", .local), (fld, .local)], isGenerator := false, isCoroutine := false, more := [] }) :
    InitDef K f qual fld fd := by
  obtain ⟨oc, od, kV, doc, pm, an, cdv, ct, osl, rfl, lk, hcd⟩ := F.ex
  exact ⟨oc, od, kV, doc, pm, an, cdv, ct, osl, defArgs st, _, q1, q2, q3, q4, by rw [hb, hs], rfl, lk, hcd⟩
end Tc
/-! except (A, B, C) as n. -/
namespace Tc
open PySem PySem.Spec PyProof.Rows L2
theorem flying_on {B : Heap} {l : List Env} {e : Addr} {Z : Obj → Prop} {h h' : Heap} (k : ∀ b o, h.get? b = some o → h'.get? b = some o) (f : HandSPX.FlyingZ B l e Z h) : HandSPX.FlyingZ B l e Z h' := by
  obtain ⟨f1, f2, f3, oe, vs, T, oT, ts, q1, q2, q3, q4, q5, q6, q7, q8, q9⟩ := f
  exact ⟨fun b o z => k b o (f1 b o z), f2, f3.of_keeps (fun b o z _ => ⟨o, k b o z, rfl⟩), oe, vs, T, oT, ts, k _ _ q1, q2, q3, q4, q5, q6, k _ _ q7, q8, q9⟩
/-- what such a clause wishes: it takes whatever comes -/
def wAs3 (K : PySem.W.Frag) (cs : List Value) (i : Nat) (ts : Addr → Value → Option Addr → TS) (D : Ends) : WX := fun cls d σ H =>
  PySem.W.exmAny K cls cs = some true ∧ ∀ a, H a = none →
    ts a cls d { nx := fun σ' H' => D.nx (σ'.set i none) H', rt := D.rt, bk := fun σ' H' => D.bk (σ'.set i none) H', ct := fun σ' H' => D.ct (σ'.set i none) H' } (σ.set i (some (.ref a))) H
section
variable {X : Cx} {x1 x2 x3 n : Str} {c1 c2 c3 : Value} {i kk : Nat} {body suite : List Stmt} {b₀ : Stmt} {p1 p2 p3 tp pos pos' : Pos} {tb : WX → TS} {ts : Addr → Value → Option Addr → TS}
theorem ps_try_as3 (hs : X.stack = X.env :: X.outer) (hf : X.env.frame = some X.env.locals) (hN : X.N.Nodup) (hi : X.N[i]? = some n) (hln : X.env.kindOf n = some .local)
    (g1 : Gl X x1) (m1 : X.mg x1 = some c1) (g2 : Gl X x2) (m2 : X.mg x2 = some c2) (g3 : Gl X x3) (m3 : X.mg x3 = some c3)
    (hb : ∀ (W : WX) (pn : List (Addr × Obj)) (xe : Value → Shared → Prop), Takes (X.tr pn xe) W → PassesOwn (model X.prog X.w) X.A X.env xe → PSs (X.tr pn xe) body (tb W))
    (hsu : ∀ (a : Addr) (oe : Obj) (cls : Value) (d : Option Addr) (pn : List (Addr × Obj)), Zc cls d oe → (∃ vs, oe.data = .fields vs) → PSs (X.suite a ((a, oe) :: pn)) (b₀ :: suite) (ts a cls d))
    (d1 : (x1 == ("__debug__" : Str)) = false := by decide) (d2 : (x2 == ("__debug__" : Str)) = false := by decide) (d3 : (x3 == ("__debug__" : Str)) = false := by decide) :
    PS X (.Try body [.ExceptHandler (some (.Tuple [.Name x1 p1, .Name x2 p2, .Name x3 p3] kk tp)) (some n) (b₀ :: suite) pos'] [] [] pos) (fun D σ H => tb (wAs3 X.K [c1, c2, c3] i ts D) D σ H) := by
  constructor
  intro pins s σ H D I h
  have ok := I.ok
  have frm : X.A.frames = some (X.env :: X.outer) := by rw [ok.frames, hs]
  refine wpAny_Try_except ?_
  refine wpAny_mono ((hb (wAs3 X.K [c1, c2, c3] i ts D) (X.pn ++ pins)
    (fun e s₁ => wpAny (model X.prog X.w) X.A (noteFrame e X.env)
      (fun _ s₂ => wpAny (model X.prog X.w) X.A (setFlight e none)
        (fun _ s₃ => wpAny (model X.prog X.w) X.A (handleBy e X.env [.ExceptHandler (some (.Tuple [.Name x1 p1, .Name x2 p2, .Name x3 p3] kk tp)) (some n) (b₀ :: suite) pos']) (SP X pins D) X.xe s₃)
        X.xe s₂) X.xe s₁)
    (fun u s' xx => ?_) PassesOwn.looking).run [] s σ H D (I.toTry _) h) (fun f s1 hsp => ?_) (fun e s1 he => he)
  · obtain ⟨a, B, sI, pins', σ', H', cls, d, rfl, J', nb, up, sky, na, os, ag, hb1, hyes⟩ := xx
    have J : Inv X pins σ' H' sI := J'.ofTry ok
    rw [hs] at sky
    show wpAny (model X.prog X.w) X.A (noteFrame (.ref a) X.env) _ _ _
    refine Sky.land Zc.steady frm hf sky fun h3 fl3 up3 => ?_
    have J3 : Inv X pins σ' H' { s' with heap := h3 } := J.landed nb fl3.1 (up.trans up3) os ag
    obtain ⟨oe3, vs3, he3, hz3, hd3⟩ := fl3.there
    have nfr : a ∉ frs (X.env :: X.outer) := fun hm => by
      obtain ⟨_, o', e', hnf⟩ := fl3.2.2.1.mem hm
      rw [he3] at e'
      cases e'
      exact hnf _ hd3
    have nL : a ≠ X.env.locals := fun z =>
      nfr (List.mem_filterMap.mpr ⟨X.env, List.mem_cons_self, by rw [hf, z]⟩)
    have nF : a ∉ X.fs := fun hm => by
      obtain ⟨e, he, q⟩ := List.mem_filterMap.mp hm
      exact nfr (List.mem_filterMap.mpr ⟨e, List.mem_cons_of_mem _ he, q⟩)
    have S3 := J3.suite he3 hd3 na nL nF
    refine wpAny_handleBy_cons (codeAny_handlers_test ?_) (by intro q; cases q)
    -- the tuple of classes
    refine wpAny_Tuple_spliced ?_
    have nm : ∀ {x : Str} {c : Value} {p : Pos} {Q : Value → Shared → Prop} {E : Value → Shared → Prop}, Gl X x → X.mg x = some c → (x == ("__debug__" : Str)) = false → Q c { s' with heap := h3 } →
        wpAny (model X.prog X.w) (X.A.mark (some (.ref a))) (eval (.Name x p) X.env) Q E { s' with heap := h3 } := fun hg hm hd q =>
      ld_glob (X := X.suite a ((a, oe3) :: (X.pn ++ pins))) S3 hg hm q hd
    show wpAny _ _ (spliced [(false, eval (.Name x1 p1) X.env), (false, eval (.Name x2 p2) X.env), (false, eval (.Name x3 p3) X.env)]) _ _ _
    refine Calls.spliced_cons (nm g1 m1 d1 (Calls.spliced_cons (nm g2 m2 d2 (Calls.spliced_cons (nm g3 m3 d3 (Calls.spliced_nil ⟨by show 3 ≤ sizeLine; decide, ?_⟩))))))
    have kp : ∀ b o, h3.get? b = some o → (h3.push { cls := .type "tuple", data := .seq [c1, c2, c3].toArray }).get? b = some o := fun b o z => Heap.get?_push_of_some _ z
    have fl3' := flying_on kp fl3
    have up3' := (up.trans up3).trans (Heap.UpToSlots.of_keeps kp)
    have KX : X.K.In (h3.push { cls := .type "tuple", data := .seq [c1, c2, c3].toArray }) := fun b o z => kp b o (J3.kIn b o z)
    have LT : PySem.W.Looks (model X.prog X.w) (h3.push { cls := .type "tuple", data := .seq [c1, c2, c3].toArray }) (typeOf (.ref a)) cls := fun A Q E s k q =>
      wpAny_typeOf_ref (k _ _ (kp _ _ he3)) (by rw [hz3.1]; exact q)
    refine (PySem.W.exm_tup3 (M := model X.prog X.w) (tp := h3.objs.size) KX LT (Heap.get?_push_size _ rfl) hb1).here ?_
    refine codeAny_handlers_suite_as ?_
    refine HandSPX.lands_againZ fl3' fun h4 fl4 up4 => ?_
    have J4 : Inv X pins σ' H' { s' with heap := h4 } := J.landed nb fl4.1 (up3'.trans up4) os ag
    obtain ⟨oe4, vs4, he4, hz4, hd4⟩ := fl4.there
    have S4 := J4.suite he4 hd4 na nL nF
    refine store_ok (X := X.suite a ((a, oe4) :: (X.pn ++ pins))) (v := .ref a) S4 hN hi (.inl hln) rfl (fun s5 S5 => ?_) (.inr hln)
    refine wpAny_mono ((hsu a oe4 cls d (X.pn ++ pins) hz4 ⟨_, hd4⟩).run [] s5 _ H' _ S5 (hyes a na)) (fun f s6 hsp => ?_) (fun _ _ z => False.elim z)
    have out : ∀ {σ6 : L2.St} {H6 : Hp} {Q : Shared → Prop}, Inv (X.suite a ((a, oe4) :: (X.pn ++ pins))) [] σ6 H6 s6 → (∀ s7, Inv X pins (σ6.set i none) H6 s7 → Q s7) →
        wpAny (model X.prog X.w) X.A (do bindName X.env n .none; unbindBehindTheSuite X.env n pos') (fun _ s7 => Q s7) X.xe s6 := fun S6 hq => gone_ok (S6.unsuite ok) hN hi hln hq
    cases f with
    | ret u =>
      obtain ⟨v6, σ6, H6, S6, r6, q6⟩ := hsp
      exact out S6 fun s7 J7 => ⟨_, _, _, J7, r6, q6⟩
    | next | brk | cont =>
      obtain ⟨σ6, H6, S6, q6⟩ := hsp
      exact out S6 fun s7 J7 => ⟨_, _, J7, q6⟩
  · cases f with
    | ret u =>
      obtain ⟨v, σ', H', J', r, q⟩ := hsp
      exact ⟨v, σ', H', J'.ofTry ok, r, q⟩
    | next =>
      obtain ⟨σ', H', J', q⟩ := hsp
      exact wpAny_execs_nil ⟨σ', H', J'.ofTry ok, q⟩
    | brk | cont =>
      obtain ⟨σ', H', J', q⟩ := hsp
      exact ⟨σ', H', J'.ofTry ok, q⟩
end
end Tc
/-! raise X(e), X with its own __init__; what a suite asks of the exception that it holds. -/
namespace Tc
open PySem PySem.Spec PyProof.Rows L2
section
variable {X : Cx} {pins : List (Addr × Obj)} {σ : L2.St} {H : Hp} {C fI e d : Addr} {B newId initId : String}
  {bmB : List Value} {fld qual : Str} {fd : FuncData} {v : V} {u : Value}
/-- behind X(e): the exception itself is not tracked, its dict is -/
theorem made_up {hp h' : Heap} {g : Array GenState} {dr : Drawn} {tk tk' : Nat} {os : OsState}
    (I : Inv X pins σ H ⟨hp, g, dr, tk, os⟩) (M : MadeX hp h' e C d fld u) (rv : RelV v u) :
    H e = none ∧ H d = none ∧ d ≠ e ∧ ∃ G : Heap, Inv X pins σ (upd H d (.xd [(fld, v)])) ⟨G, g, dr, tk', os⟩ ∧ (∀ b o, G.get? b = some o → h'.get? b = some o) ∧ G.get? e = none := by
  have he : H e = none := I.hok.fresh M.new
  have hd : H d = none := I.hok.fresh M.big
  obtain ⟨G, g1, g2⟩ := restrict h' fun b => decide (b ≠ e)
  have gk : ∀ b, b ≠ e → G.get? b = h'.get? b := fun b hb => g1 b (decide_eq_true hb)
  have ge : G.get? e = none := g2 e (by simp)
  have old : ∀ b o, hp.get? b = some o → G.get? b = some o := by
    intro b o q
    have hb : b ≠ e := Nat.ne_of_lt (Nat.lt_of_lt_of_le (Heap.lt_size q) M.new)
    rw [gk b hb]
    exact M.keep b o q
  have one : ObjOk X.prog X.w (upd H d (.xd [(fld, v)])) G d (.xd [(fld, v)]) := by
    refine ⟨fun y => if y = fld then some u else none, M.ns.at fun o q => (gk d M.dne).trans q, relO_one rv⟩
  refine ⟨he, hd, M.dne, G, I.laid (t' := tk') old M.big one, fun b o q => ?_, ge⟩
  by_cases hb : b = e
  · rw [hb, ge] at q
    cases q
  · exact (gk b hb).symm.trans q
/-- raise's X(e) -/
def tMkX (C : Addr) (fld : Str) (te : TE) : L2.St → Hp → XK → Prop := fun σ H Q => te σ H fun v H1 => ∀ d, H1 d = none → Q (.ref C) (some d) (upd H1 d (.xd [(fld, v)]))
variable {x : Str} {p pos : Pos} {ee : Expr} {te : TE} {k : Nat}
theorem pmk_newX (N : NewAble X.K X.mg x fld C) (hE : PySem.W.subIn X.K (.ref C) (.type "BaseException") = some true) (hT : PySem.W.typeIn X.K (.ref C) = some (.type "type"))
    (hr : Room k X.A) (hg : Gl X x) (he : PE X ee te)
    (hs : starEach [ee] X.env = (false, eval ee X.env) :: starEach [] X.env := by rfl)
    (hdb : (x == ("__debug__" : Str)) = false := by decide) :
    PMk X (.Call (.Name x p) [ee] [] pos) (tMkX C fld te) := by
  obtain ⟨fI, B, newId, initId, bmB, qual, fd, Z, fn, D, b1, b2⟩ := N.ex
  intro pins s σ H Q I h
  refine wpAny_Call_Name_kw (ld_glob I hg N.gm ?_ hdb)
  refine PySem.W.callWith_K (h₀ := X.base) I.ok.mod.kin Z.kp ?_ hs (by rfl)
  rw [hs]
  show wpAny _ _ (spliced ((false, eval ee X.env) :: backTo pos (starEach [] X.env))) _ _ s
  refine Calls.spliced_cons (thn (he.run pins s σ H _ I h) ?_)
  rintro u s1 ⟨v, H1, I1, r1, q1⟩
  refine Calls.spliced_nil ⟨I1.kIn, ?_⟩
  obtain ⟨hp, g, dr, tk, os⟩ := s1
  refine wpAny_call (made_run (rest := [u]) (kw := []) Z fn D I1.kIn I1.nolimit (by have := hr.dp; omega) (by rw [sizeLine_eq]; show 1 ≤ 16777216; decide) (fun s y => b1 u s y) ?_)
  intro h' tk' e d M
  obtain ⟨he', hd', ne, G, J, kG, ge⟩ := made_up (tk' := tk') I1 M r1
  obtain ⟨t1, hob⟩ := M.obj
  exact ⟨e, _, _, ⟨G, g, dr, tk', os⟩, _, .ref C, some d, rfl, J, kG, ge, hob, ⟨rfl, rfl⟩, rfl, rfl, by rw [upd_ne ne.symm]; exact he', rfl, I1.bare, raises_own hE hT, q1 d hd'⟩
/-- isinstance(e, c), e the exception that the suite holds, its dict tracked -/
def rIsH (K : PySem.W.Frag) (a D d : Addr) : List V → Hp → VK → Prop := fun xs H Q => ∃ (c : V) (cv : Value) (b : Bool) (fs : List (Str × V)),
  xs = [.ref a, c] ∧ H d = some (.xd fs) ∧ ClsV c cv ∧ PySem.W.kitOne K (.ref D) cv = some b ∧ Q (.bl b) H
theorem call_isH {a D d : Addr} {oe : Obj} {pn : List (Addr × Obj)} (T : ExA X.K D) (hz : Zc (.ref D) (some d) oe) (hf : ∃ vs, oe.data = .fields vs) :
    CallR (X.suite a ((a, oe) :: pn)) (.builtin "isinstance") (rIsH X.K a D d) := by
  intro pins s σ H xs us Q I r h
  obtain ⟨c, cv, b, fs, rfl, hd, hc, e, q⟩ := h
  cases r with
  | cons rx rr =>
    cases rr with
    | cons rt rr =>
      cases rr
      cases rx
      have ec := hc.eq rt
      subst ec
      obtain ⟨ha, _⟩ := I.pin (a, oe) (List.mem_append_left _ List.mem_cons_self)
      obtain ⟨vs, hv⟩ := hf
      have hx : ObjOk X.prog X.w H s.heap d (.xd fs) := I.hok d _ hd
      obtain ⟨mA, hns, _⟩ := hx
      obtain ⟨od, ho, _⟩ := lookIn_ns hns
      have J : PySem.W.InstAt s.heap a oe D (some od) := ⟨ha, hz.1, by unfold PySem.W.notCls; rw [hv] <;> rfl, by rw [hz.2]; exact ho⟩
      have cl : (PySem.W.clsIn X.K D).isSome = true := by
        obtain ⟨cd, hcd, _⟩ := PySem.W.any_some T.own
        rw [hcd]
        rfl
      refine PySem.W.kia_one (PySem.W.kitx_exc cl T.ga T.gg T.ex T.kc T.sn T.tk T.mo) I.kIn J e (fun z => nomatch z) ?_
      intro tk
      exact ⟨.bl b, H, I.kept (t' := tk) fun _ _ z => z, rfl, q⟩
end
end Tc
/-! xs.count(b), xs a list of bools. -/
namespace Tc
open PySem PySem.Spec PyProof.Rows L2
def eqb (b : Bool) (v : Value) : Bool := match v with
  | .bool c => c == b
  | _ => false
/-- xs.count(b) -/
def rCntB (K : PySem.W.Frag) : V → List V → Hp → VK → Prop := fun x xs H Q => ∃ (p : Addr) (bs : List Bool) (b : Bool), x = .ref p ∧ xs = [.bl b] ∧ SqL K H p (bs.map V.bl) ∧ Q (.int (bs.count b : Nat)) H
theorem bools_are : ∀ {bs : List Bool} {us : List Value}, Vals (bs.map V.bl) us → us = bs.map Value.bool
  | [], _, h => by cases h; rfl
  | b :: bs, _, h => by
    cases h with
    | cons h1 h2 =>
      have e1 : _ = Value.bool b := h1
      rw [e1, bools_are h2]
      rfl
theorem mt_countB {X : Cx} : MtR X "list.count" (rCntB X.K) := by
  intro pins s σ H x xs v us Q I rx rxs h
  obtain ⟨p, bs, b, rfl, rfl, hs, q⟩ := h
  cases rx
  obtain ⟨u, rfl, ru⟩ := rxs.one
  obtain rfl : u = Value.bool b := ru
  obtain ⟨its, rv, ⟨⟨cls, dd, data, sl⟩, n, ho, hc, hdn, hd⟩, hlen⟩ := I.list hs
  simp only at hc hd
  subst hc hd
  obtain rfl := bools_are rv
  refine call_meets PySem.F.slot_list_count ⟨_, ho, rfl⟩ PySem.F.entry_list_count (PySem.F.args_list_count_2 _ _)
    (SeqAt.list_countAt p (bs.map Value.bool).toArray n dd sl (.bool b) (eqb b)) ⟨ho, fun y hy => ?_, ?_⟩
  · have hy : y ∈ bs.map Value.bool := by simpa using hy
    obtain ⟨c, _, rfl⟩ := List.mem_map.mp hy
    exact SeqAt.EqAt.bool_bool c b
  · have ec : (bs.map Value.bool).toArray.toList.countP (eqb b) = bs.count b := by
      show (bs.map Value.bool).countP (eqb b) = _
      rw [List.countP_map] <;> rfl
    refine ⟨.int (bs.count b : Nat), H, I.tok _, ⟨s.toks, ?_⟩, q⟩
    show Value.int _ s.toks = Value.int _ s.toks
    rw [ec]
end Tc
namespace Tc
open PySem PySem.Spec PyProof.Rows L2
mutual
theorem Dv.mono {H H' : Hp} (s : Same H H') : ∀ {v : V} {d : PyData}, Dv H v d → Dv H' v d
  | _, _, .non => .non
  | _, _, .bl b => .bl b
  | _, _, .int i => .int i
  | _, _, .str x => .str x
  | _, _, .lst h a => .lst (h.elim (fun z => .inl (s _ _ z)) fun ⟨o, z⟩ => .inr ⟨o, s _ _ z⟩) (DvAll.mono s a)
  | _, _, .tup h a => .tup (h.elim (fun z => .inl (s _ _ z)) fun ⟨o, z⟩ => .inr ⟨o, s _ _ z⟩) (DvAll.mono s a)
  | _, _, .dct h a => .dct (h.elim (fun z => .inl (s _ _ z)) fun ⟨o, z⟩ => .inr ⟨o, s _ _ z⟩) (DvKv.mono s a)
theorem DvAll.mono {H H' : Hp} (s : Same H H') : ∀ {vs : List V} {ds : List PyData}, DvAll H vs ds → DvAll H' vs ds
  | _, _, .nil => .nil
  | _, _, .cons a b => .cons (Dv.mono s a) (DvAll.mono s b)
theorem DvKv.mono {H H' : Hp} (s : Same H H') : ∀ {kvs : List (Key × V)} {ds : List (PyData × PyData)}, DvKv H kvs ds → DvKv H' kvs ds
  | _, _, .nil => .nil
  | _, _, .cons a b => .cons (Dv.mono s a) (DvKv.mono s b)
end
theorem Same.new {H : Hp} {p : Addr} {o : HO} (h : H p = none) : Same H (upd H p o) := fun b u e => by
  rw [upd_ne (ne_of_none e h)]
  exact e
theorem Same.new2 {H : Hp} {p : Addr} {o u : HO} (h : H p = none) : Same H (upd (upd H p o) p u) := fun b z e => by
  rw [upd_ne (ne_of_none e h), upd_ne (ne_of_none e h)]
  exact e
/-- data that repr shows -/
def Good (d : PyData) : Prop := d.showable = true ∧ d.depth ≤ 100 ∧ d.shown.length ≤ sizeLine
instance (d : PyData) : Decidable (Good d) := by unfold Good; exact inferInstance
/-- a def's call, told by what it keeps -/
theorem Call.of {P : Program} {w : World} {K : PySem.W.Frag} {mg : Str → Option Value} {base : Heap} {CX : CXT} {k : Nat} {x qual : Str} {st : Stmt} {f : Addr} {fd : FuncData} {ps : List Str} {sp : Sp}
    (F : Fun K x qual st f fd) (G : FnG P w K mg base CX k f fd ps sp) (gm : mg x = some (.ref f))
    (h : ∀ (kV doc pm : Value) (an : Option Addr) (cdv ct : Value) (us : List Value), us.length = ps.length → bindArgs (PySem.W.fnOf x qual (defArgs st) (defBody st) (defScope st) .none kV doc pm an cdv ct) ⟨us, []⟩ = pure (ps.zip us)) :
    Call P w K mg base CX k x ps sp := ⟨f, fd, G, gm, F.kp, F.binds h⟩
end Tc
namespace Tc
open PySem PySem.Spec PyProof.Rows L2 Evl
/-- the lists at ps -/
inductive LL (H : Hp) : List Addr → List (List V) → Prop
  | nil : LL H [] []
  | snoc {ps : List Addr} {xss : List (List V)} {p : Addr} {xs : List V} : LL H ps xss → H p = some (.lst xs) → LL H (ps ++ [p]) (xss ++ [xs])
theorem LL.mono {H H' : Hp} : ∀ {ps : List Addr} {xss : List (List V)}, LL H ps xss → (∀ p ∈ ps, ∀ o, H p = some o → H' p = some o) → LL H' ps xss
  | _, _, .nil, _ => .nil
  | _, _, .snoc r h, s => .snoc (r.mono fun p hp => s p (List.mem_append_left _ hp)) (s _ (by simp) _ h)
/-- [a new list for each turn] -/
theorem lc_ll {J : It} {n : Nat} {G : Hp → Prop} {Y : Nat → Hp → V → Hp → Prop} {te : TE} {vs : List Nat} {j : Nat} {σ : L2.St} {H1 : Hp} {D : Addr} {Qd : Hp → Prop} (w : Walk J n G Y) (xv : Nat → V) (c : Nat → List V)
    (hD : H1 D = none) (hn : n ≤ 1000) (hY : ∀ i H x H', i < n → Y i H x H' → H' = H ∧ x = xv i) (hG : ∀ H', Ex H1 H' → G H') (hw : ∀ x, wipe ((wipe σ vs).set j (some x)) vs = wipe σ vs)
    (he : ∀ i H', i < n → Ex H1 H' → EvL te ((wipe σ vs).set j (some (xv i))) H' (c i))
    (q : ∀ ps H', Ex H1 H' → H' D = some (.lst (ps.map V.ref)) → LL H' ps ((List.range n).map c) → Qd H') :
    ∃ W : Nat → Nat → Hp → Prop, (∃ m, W 0 m (upd H1 D (.lst []))) ∧ ∀ i m H, W i m H →
      (J.stop i H ∧ Qd H) ∨ (J.go i H ∧ ∃ Nx : Hp → Prop, (∀ H', Nx H' → ∃ m', m' < m ∧ W (i + 1) m' H') ∧ ∀ x H', J.yld i H x H' → gName j x (wipe σ vs) H' fun σ2 H2 => wipe σ2 vs = wipe σ vs ∧ tYes σ2 H2 fun b H3 =>
        if b = true then te σ2 H3 fun y H4 => ∃ acc, H4 D = some (.lst acc) ∧ acc.length < sizeLine ∧ Nx (upd H4 D (.lst (acc ++ [y]))) else Nx H3) := by
  refine lc_it w (fun i H' => Ex H1 H' ∧ ∃ ps : List Addr, ps.length = i ∧ i ≤ n ∧ H' D = some (.lst (ps.map V.ref)) ∧ D ∉ ps ∧ LL H' ps ((List.range i).map c))
    ⟨Ex.new hD, [], rfl, Nat.zero_le _, upd_same, by simp, .nil⟩ (fun i H' _ p => hG H' p.1) ?_ (fun H' p => ?_)
  · rintro i x H H' hi ⟨p1, ps, p2, p3, p4, p5, p6⟩ y
    obtain ⟨rfl, rfl⟩ := hY i H x H' hi y
    refine ⟨hw _, ?_⟩
    simp only [tYes, eq_self, if_true]
    refine he i H' hi p1 H' (Evl.Ex.refl H') _ fun p H4 hp e4 h4 => ?_
    have pD : p ≠ D := fun z => by
      rw [z, p4] at hp
      cases hp
    refine ⟨ps.map V.ref, e4 _ _ p4, by rw [List.length_map, p2]; exact Nat.lt_of_lt_of_le hi (Nat.le_trans hn (by decide)), Ex.mut (p1.trans e4) hD, ps ++ [p], by simp [p2], hi, by rw [upd_same, List.map_append]; rfl, ?_, ?_⟩
    · simp only [List.mem_append, List.mem_singleton, not_or]
      exact ⟨p5, fun z => pD z.symm⟩
    · rw [List.range_succ, List.map_append]
      refine LL.mono (.snoc (p6.mono fun a _ o z => e4 a o z) h4) fun a ha o z => ?_
      rw [upd_ne (fun z' => by
        rw [z'] at ha
        exact (by simpa using ha : D ∈ ps ∨ D = p).elim p5 fun z2 => pD z2.symm)]
      exact z
  · obtain ⟨p1, ps, p2, p3, p4, p5, p6⟩ := p
    exact q ps H' p1 p4 p6
theorem Call.mono {P : Program} {w : World} {K : PySem.W.Frag} {mg : Str → Option Value} {base : Heap} {CX : CXT} {j k : Nat} {x : Str} {ps : List Str} {sp : Sp} (F : Call P w K mg base CX j x ps sp) (h : j ≤ k) : Call P w K mg base CX k x ps sp := by
  obtain ⟨f, fd, G, r⟩ := F.ex
  exact ⟨f, fd, G.mono h, r⟩
/-- a whole number of the module -/
theorem pe_num {X : Cx} {x : Str} {n : Int} {p : Pos} (h : ∃ t, X.mg x = some (.int n t)) (hg : Gl X x) (hd : (x == ("__debug__" : Str)) = false := by decide) : PE X (.Name x p) (tC (.int n)) := by
  obtain ⟨t, e⟩ := h
  exact pe_glob hg e ⟨_, rfl⟩ hd
end Tc
/-! a op b op c op d; which class data are of. -/
namespace Tc
open PySem PySem.Spec PyProof.Rows L2
section
variable {X : Cx} {a b c d : Expr} {ta tb tc td : TE} {pos : Pos}
/-- a op b op c op d -/
def tChain3 (r r' r'' : R2) (ta tb tc td : TE) : TE := fun σ H Q => ta σ H fun x H1 => tb σ H1 fun y H2 => r x y H2 fun z H3 => ∃ k, z = .bl k ∧
  if k = true then tc σ H3 fun w H4 => r' y w H4 fun z H5 => ∃ k, z = .bl k ∧ (if k = true then td σ H5 fun v H6 => r'' w v H6 Q else Q (.bl false) H5)
  else Q (.bl false) H3
theorem pe_chain3 {op op' op'' : CmpOp} {r r' r'' : R2} (ho : OpR X (compareOp op) r) (ho' : OpR X (compareOp op') r') (ho'' : OpR X (compareOp op'') r'') (ha : PE X a ta) (hb : PE X b tb) (hc : PE X c tc) (hd : PE X d td)
    (hm : lastMarks [op, op', op''] [b, c, d] = false := by with_unfolding_all rfl) : PE X (.Compare a [op, op', op''] [b, c, d] pos) (tChain3 r r' r'' ta tb tc td) := by
  constructor
  intro pins s σ H Q I h
  refine Compare_chain (thn (ha.run pins s σ H _ I h) ?_) hm
  rintro v s1 ⟨x, H1, I1, r1, q1⟩
  refine chain_link (thn (hb.run pins s1 σ H1 _ I1 q1) ?_)
  rintro u s2 ⟨y, H2, I2, r2, q2⟩
  refine thn (ho pins s2 σ H2 x y v u _ I2 r1 r2 q2) ?_
  rintro e s3 ⟨z, H3, I3, r3, k, rfl, q3⟩
  cases r3
  refine wpAny_truthy_bool ?_
  cases k with
  | false => exact ite_ff ⟨.bl false, H3, I3, rfl, q3⟩
  | true =>
    refine ite_tt (chain_link (thn (hc.run pins s3 σ H3 _ I3 q3) ?_))
    rintro u4 s4 ⟨w, H4, I4, r4, q4⟩
    refine thn (ho' pins s4 σ H4 y w u u4 _ I4 r2 r4 q4) ?_
    rintro e s5 ⟨z, H5, I5, r5, k, rfl, q5⟩
    cases r5
    refine wpAny_truthy_bool ?_
    cases k with
    | false => exact ite_ff ⟨.bl false, H5, I5, rfl, q5⟩
    | true =>
      refine ite_tt (chain_last (thn (hd.run pins s5 σ H5 _ I5 q5) ?_))
      rintro u6 s6 ⟨v6, H6, I6, r6, q6⟩
      exact ho'' pins s6 σ H6 w v6 u4 u6 Q I6 r4 r6 q6
end
/-- the class of data -/
def tyD : PyData → String
  | .none => "NoneType"
  | .bool _ => "bool"
  | .int _ => "int"
  | .str _ => "str"
  | .list _ => "list"
  | .tuple _ => "tuple"
  | .dict _ => "dict"
theorem Dv.ty {K : PySem.W.Frag} {H : Hp} {v : V} {d : PyData} (h : Dv H v d) : TyX K H v (.type (tyD d)) := by
  cases h with
  | non => exact .base .non
  | bl b => exact .base (.bl b)
  | int i => exact .base (.int i)
  | str x => exact .base (.str x)
  | lst h _ => exact h.elim (fun h => .base (.lst h)) fun ⟨o, h⟩ => .base (.frz h)
  | tup h _ => exact h.elim (fun h => .base (.tup h)) fun ⟨o, h⟩ => .fTuple h
  | dct h _ => exact h.elim (fun h => .base (.dK h)) fun ⟨o, h⟩ => .fDict h
/-- isinstance of two built-in classes -/
def tyIs (a b : String) : Bool := (Value.type a == Value.type b) || ((fastBuiltinMro a).map fun l => l.contains (.type b)) == some true
theorem kit_ty {K : PySem.W.Frag} {a b : String} (h : (PySem.W.kitMeta b && (fastBuiltinMro a).isSome) = true) : PySem.W.kitOne K (.type a) (.type b) = some (tyIs a b) := by
  obtain ⟨h1, h2⟩ := Bool.and_eq_true_iff.mp h
  obtain ⟨l, hl⟩ := Option.isSome_iff_exists.mp h2
  unfold PySem.W.kitOne tyIs
  by_cases e : (Value.type a == Value.type b) = true
  · rw [if_pos e, e] <;> rfl
  · rw [if_neg e]
    have e2 : (Value.type a == Value.type b) = false := Bool.eq_false_iff.mpr e
    unfold PySem.W.kitCls
    show (if PySem.W.kitMeta b = true then PySem.W.subIn K (.type a) (.type b) else none) = _
    rw [if_pos h1, e2]
    show (fastBuiltinMro a).map _ = _
    rw [hl]
    show some (l.contains (Value.type b)) = some (false || (some (l.contains (Value.type b)) == some true))
    cases l.contains (Value.type b) <;> rfl
theorem metas : ∀ b ∈ ["int", "bool", "tuple", "str", "list"], ∀ a ∈ ["NoneType", "bool", "int", "str", "list", "tuple", "dict"], (PySem.W.kitMeta b && (fastBuiltinMro a).isSome) = true := by decide +kernel
theorem tyD_mem (d : PyData) : tyD d ∈ ["NoneType", "bool", "int", "str", "list", "tuple", "dict"] := by
  cases d <;> simp [tyD]
/-- isinstance(v, T), v data -/
theorem isi_D {K : PySem.W.Frag} {H : Hp} {v : V} {d : PyData} {T : String} {Q : VK} (h : Dv H v d) (hT : T ∈ ["int", "bool", "tuple", "str", "list"]) (q : Q (.bl (tyIs (tyD d) T)) H) : rIsi K [v, .ty T] H Q :=
  ⟨v, .ty T, _, _, _, rfl, .ty T, h.ty, kit_ty (metas T hT _ (tyD_mem d)), q⟩
/-- as a reading -/
theorem q_isi {K : PySem.W.Frag} {σ : L2.St} {i : Nat} {H : Hp} {v : V} {d : PyData} {T : String} {Q : VK} (hs : σ[i]? = some (some v)) (h : Dv H v d) (hT : T ∈ ["int", "bool", "tuple", "str", "list"]) (q : Q (.bl (tyIs (tyD d) T)) H) :
    tCB (rIsi K) (tCons (tVar i) (tCons (tC (.ty T)) tNil)) σ H Q := ⟨v, hs, isi_D (Q := Q) h hT q⟩
theorem ty_int : ∀ d : PyData, tyIs (tyD d) "int" = (match d with | .int _ => true | .bool _ => true | _ => false) := by
  have h : tyIs "NoneType" "int" = false ∧ tyIs "bool" "int" = true ∧ tyIs "int" "int" = true ∧ tyIs "str" "int" = false ∧ tyIs "list" "int" = false ∧ tyIs "tuple" "int" = false ∧ tyIs "dict" "int" = false := by decide +kernel
  obtain ⟨h1, h2, h3, h4, h5, h6, h7⟩ := h
  intro d
  cases d <;> simp only [tyD] <;> assumption
theorem ty_bool : ∀ d : PyData, tyIs (tyD d) "bool" = (match d with | .bool _ => true | _ => false) := by
  have h : tyIs "NoneType" "bool" = false ∧ tyIs "bool" "bool" = true ∧ tyIs "int" "bool" = false ∧ tyIs "str" "bool" = false ∧ tyIs "list" "bool" = false ∧ tyIs "tuple" "bool" = false ∧ tyIs "dict" "bool" = false := by decide +kernel
  obtain ⟨h1, h2, h3, h4, h5, h6, h7⟩ := h
  intro d
  cases d <;> simp only [tyD] <;> assumption
theorem ty_tuple : ∀ d : PyData, tyIs (tyD d) "tuple" = (match d with | .tuple _ => true | _ => false) := by
  have h : tyIs "NoneType" "tuple" = false ∧ tyIs "bool" "tuple" = false ∧ tyIs "int" "tuple" = false ∧ tyIs "str" "tuple" = false ∧ tyIs "list" "tuple" = false ∧ tyIs "tuple" "tuple" = true ∧ tyIs "dict" "tuple" = false := by decide +kernel
  obtain ⟨h1, h2, h3, h4, h5, h6, h7⟩ := h
  intro d
  cases d <;> simp only [tyD] <;> assumption
theorem ty_str : ∀ d : PyData, tyIs (tyD d) "str" = (match d with | .str _ => true | _ => false) := by
  have h : tyIs "NoneType" "str" = false ∧ tyIs "bool" "str" = false ∧ tyIs "int" "str" = false ∧ tyIs "str" "str" = true ∧ tyIs "list" "str" = false ∧ tyIs "tuple" "str" = false ∧ tyIs "dict" "str" = false := by decide +kernel
  obtain ⟨h1, h2, h3, h4, h5, h6, h7⟩ := h
  intro d
  cases d <;> simp only [tyD] <;> assumption
theorem Dv.isT {H : Hp} {v : V} {ds : List PyData} (h : Dv H v (.tuple ds)) : ∃ a xs, v = .ref a ∧ Rd H a (.tup xs) ∧ DvAll H xs ds := by
  cases h with
  | tup h1 h2 => exact ⟨_, _, rfl, h1, h2⟩
theorem DvAll.len {H : Hp} : ∀ {vs : List V} {ds : List PyData}, DvAll H vs ds → vs.length = ds.length
  | _, _, .nil => rfl
  | _, _, .cons _ h => congrArg Nat.succ h.len
end Tc
/-! calls of defs that may stand under a repr, by place and by name. -/
namespace Tc
open PySem PySem.Spec PyProof.Rows L2
/-- as Call, whoever calls -/
structure CallO (P : Program) (w : World) (K : PySem.W.Frag) (mg : Str → Option Value) (base : Heap) (CX : CXT)
    (k : Nat) (x : Str) (ps : List Str) (sp : Sp) : Prop where
  ex : ∃ f fd, FnOk P w K mg base CX k f fd ps sp ∧ mg x = some (.ref f) ∧ PySem.W.keepIn K (.ref f) = true ∧ Binds K fd ps []
theorem CallO.call {P : Program} {w : World} {K : PySem.W.Frag} {mg : Str → Option Value} {base : Heap} {CX : CXT} {k : Nat} {x : Str} {ps : List Str} {sp : Sp}
    (F : CallO P w K mg base CX k x ps sp) : Call P w K mg base CX k x ps sp := by
  obtain ⟨f, fd, G, r⟩ := F.ex
  exact ⟨f, fd, .of G, r⟩
theorem CallO.of {P : Program} {w : World} {K : PySem.W.Frag} {mg : Str → Option Value} {base : Heap} {CX : CXT} {k : Nat} {x qual : Str} {st : Stmt} {f : Addr} {fd : FuncData} {ps : List Str} {sp : Sp}
    (F : Fun K x qual st f fd) (G : FnOk P w K mg base CX k f fd ps sp) (gm : mg x = some (.ref f))
    (h : ∀ (kV doc pm : Value) (an : Option Addr) (cdv ct : Value) (us : List Value), us.length = ps.length → bindArgs (PySem.W.fnOf x qual (defArgs st) (defBody st) (defScope st) .none kV doc pm an cdv ct) ⟨us, []⟩ = pure (ps.zip us)) :
    CallO P w K mg base CX k x ps sp := ⟨f, fd, G, gm, F.kp, F.binds h⟩
/-- called by names alone: ns, which the values vs, put in order by pm, are for -/
structure CallK (P : Program) (w : World) (K : PySem.W.Frag) (mg : Str → Option Value) (base : Heap) (CX : CXT)
    (k : Nat) (x : Str) (ps : List Str) (sp : Sp) (ns : List Str) (pm : {α : Type} → List α → List α) : Prop where
  ex : ∃ f fd, FnOk P w K mg base CX k f fd ps sp ∧ mg x = some (.ref f) ∧ PySem.W.keepIn K (.ref f) = true ∧
    ∀ (s : Shared) (us : List Value), us.length = ns.length → BindsTo s fd ⟨[], ns.zip us⟩ (ps.zip (pm us))
  rel : ∀ {vs : List V} {us : List Value}, Vals vs us → Vals (pm vs) (pm us)
section
variable {X : Cx} {CX : CXT} {k : Nat} {ps ns : List Str} {sp : Sp} {E : XK} {x : Str} {p pos : Pos} {e : Expr} {es : List Expr} {t : TA} {pm : {α : Type} → List α → List α}
theorem pe_doO (F : CallO X.prog X.w X.K X.mg X.base CX k x ps sp) (hr : Room k X.A) (hg : Gl X x) (hx : Passes CX X E) (ha : PA X (e :: es) t)
    (hdb : (x == ("__debug__" : Str)) = false := by decide)
    (he : starEach (e :: es) X.env = (false, eval e X.env) :: starEach es X.env := by rfl)
    (hpl : (backTo pos (starEach es X.env)).any (·.1) = false := by rfl) :
    PE X (.Call (.Name x p) (e :: es) [] pos) (tCall sp [] E t) := by
  obtain ⟨f, fd, G, hm, hk, hb⟩ := F.ex
  exact pe_call G hr hg hm hk hb .nil hx ha hdb he hpl
def tCallK (sp : Sp) (pm : {α : Type} → List α → List α) (E : XK) (t : TA) : TE := fun σ H Q => t σ H fun vs H1 => sp (pm vs) H1 Q E
theorem pe_doK {ks : List Keyword} (F : CallK X.prog X.w X.K X.mg X.base CX k x ps sp ns pm) (hr : Room k X.A) (hg : Gl X x) (hx : Passes CX X E) (hk : PK X ks t)
    (hall : (backToKw pos (keywordEach ks X.env)).all (·.1.isSome) = true := by rfl)
    (hks : (backToKw pos (keywordEach ks X.env)).filterMap (·.1) = ns := by rfl)
    (hpl : ((backTo pos (starEach [] X.env)).any (·.1) || (backToKw pos (keywordEach ks X.env)).any (·.1.isNone)) = false := by rfl)
    (hl : ns.length = ks.length := by rfl) (hdb : (x == ("__debug__" : Str)) = false := by decide)
    (hlen : ∀ us vs H Q E, sp (pm vs) H Q E → Vals vs us → us.length = ns.length ∧ (pm us).length = ps.length) :
    PE X (.Call (.Name x p) [] ks pos) (tCallK sp pm E t) := by
  obtain ⟨f, fd, G, hm, kp, hb⟩ := F.ex
  constructor
  intro pins s σ H Q I h
  refine wpAny_Call_Name_kw (ld_glob I hg hm ?_ hdb)
  refine PySem.W.callWith_KW0 (h₀ := X.base) I.ok.mod.kin kp hall (thn (hk.run pos pins s σ H _ I h) ?_) hpl
  rintro us s1 ⟨vs, H1, I1, r, q⟩
  refine ⟨I1.kIn, ?_⟩
  rw [hks]
  have both := hlen us vs _ _ _ q r
  have main := G.run X.A X.stack s1 H1 ⟨[], ns.zip us⟩ (pm us) (pm vs) Q E hr I1.env0 (hb s1 us both.1) (F.rel r) q
  refine wpAny_call (codeAny_mono main ?_)
  intro res s' hq
  cases res with
  | error er => exact hx pins σ H1 s1 er s' I1 hq
  | ok fl =>
    cases fl with
    | ret u => exact I1.after hq
    | next | brk | cont => exact False.elim hq
end
end Tc
/-! The head's facts with the tables of defs that make lambdas; the law's end with these, no repr around. -/
namespace Tc
open PySem PySem.Spec PyProof.Rows L2
def frTM (g : Addr → Option Obj) : PySem.W.Frag := He.frT g (adsM g)
structure SaysTM (F : PySem.W.Frag → Bool) (fn : List He.FnD) (tf : List He.Defn) (h : Heap) (K : PySem.W.Frag) : Prop where
  core : SaysM F fn K
  hd : ∀ p ∈ tf, PySem.W.codeHdIn K (He.cT K p).1 (He.cT K p).2 = true
  out : ∀ p ∈ tf, K.lookup (He.cT K p).2 = none
  empty : ∀ p ∈ tf, h.get? (He.cT K p).2 = some { cls := .none, data := .fields #[] }
def obsTM (F : PySem.W.Frag → Bool) (fn : List He.FnD) (tf : List He.Defn) (g : Addr → Option Obj) : He.Al × Bool := (obsM F fn (frTM g), He.tabsB g tf (frTM g))
theorem saysTM_of {F : PySem.W.Frag → Bool} {fn : List He.FnD} {tf : List He.Defn} {h : Heap} (e : obsTM F fn tf h.get? = (He.valE fn, true)) : SaysTM F fn tf h (frTM h.get?) := by
  have e1 : obsM F fn (frTM h.get?) = He.valE fn := congrArg (fun z : He.Al × Bool => z.1) e
  have e2 : He.tabsB h.get? tf (frTM h.get?) = true := congrArg (fun z : He.Al × Bool => z.2) e
  have at_ : ∀ p ∈ tf, PySem.W.codeHdIn (frTM h.get?) (He.cT (frTM h.get?) p).1 (He.cT (frTM h.get?) p).2 = true ∧ ∃ o, h.get? (He.cT (frTM h.get?) p).2 = some o ∧ He.emptyTab o = true := by
    intro p hp
    obtain ⟨a, b⟩ := He.ba (List.all_eq_true.mp e2 p hp)
    refine ⟨a, ?_⟩
    cases q : h.get? (He.cT (frTM h.get?) p).2 with
    | none =>
      rw [q] at b
      cases b
    | some o =>
      rw [q] at b
      exact ⟨o, rfl, b⟩
  refine ⟨e1, fun p hp => (at_ p hp).1, fun p hp => ?_, fun p hp => ?_⟩
  · obtain ⟨_, o, q, z⟩ := at_ p hp
    exact He.frT_none q z
  · obtain ⟨_, o, q, z⟩ := at_ p hp
    rw [q, He.emptyTab_eq z]
def hookTM (F : PySem.W.Frag → Bool) (fn : List He.FnD) (tf : List He.Defn) : PySem.W.Hook where
  α := He.Al × Bool
  obs := fun s => obsTM F fn tf s.heap.get?
  val := fun _ => (He.valE fn, true)
  says := fun _ h => ∃ K : PySem.W.Frag, K.In h ∧ SaysTM F fn tf h K
  of := fun _ _ e => ⟨_, He.frT_in, saysTM_of e⟩
  keeps := fun _ _ _ ⟨K, hK, c⟩ k => ⟨K, PySem.W.Frag.In.keeps hK k, ⟨c.core, c.hd, c.out, fun p hp => k _ _ (c.empty p hp)⟩⟩
theorem obsTM_eq {F : PySem.W.Frag → Bool} {fn : List He.FnD} {tf : List He.Defn} {g : Addr → Option Obj} {s : Shared}
    (h : ∀ a, g a = s.heap.get? a) : obsTM F fn tf g = (hookTM F fn tf).obs s := by
  have e : g = s.heap.get? := funext h
  rw [e] <;> rfl
end Tc
namespace K02
open PySem PySem.Spec PyProof.Rows L2 Tc
def topS (i : Nat) : Stmt := PySem.Challenge.pw_toldcounts_k02_whole_stretches_and_their.main.body.getD i (.Pass ⟨0, 0, 0, 0⟩)
abbrev s_unit : Stmt := topS 10
abbrev s_number_with : Stmt := topS 11
abbrev s_is_integer : Stmt := topS 9
abbrev s_read_number : Stmt := topS 12
abbrev s_is_stretch : Stmt := topS 14
abbrev s_need_stretch : Stmt := topS 15
abbrev s_text_of_stretch : Stmt := topS 16
abbrev s_stretch_in_text : Stmt := topS 17
abbrev s_stretch_text : Stmt := topS 18
abbrev s_read_stretch : Stmt := topS 19
abbrev s_in_both : Stmt := topS 20
abbrev s_jar : Stmt := topS 22
abbrev s_draw : Stmt := topS 23
abbrev s_pick : Stmt := topS 24
abbrev s_span : Stmt := topS 25
abbrev s_whole : Stmt := topS 26
abbrev s_is_span : Stmt := topS 27
abbrev s_odd : Stmt := topS 28
abbrev s_word : Stmt := topS 29
abbrev s_number : Stmt := topS 30
abbrev s_told : Stmt := topS 31
abbrev s_bent : Stmt := topS 32
abbrev s_heard : Stmt := topS 33
abbrev s_texts_right : Stmt := topS 34
abbrev s_both_right : Stmt := topS 35
abbrev s_right : Stmt := topS 36
abbrev s_law : Stmt := topS 37
def ex1 (x f : Str) (k : Kin) (n : Nat) : Str × Str × Kin × Nat := (x, f, k, n)
def al1 (x : Str) (k : Kin) : Str × Kin := (x, k)
def pl1 (x : Str) (n : Nat) : Str × Nat := (x, n)
def exs : List (Str × Str × Kin × Nat) := [ex1 "InvalidText" "given" .v 2, ex1 "InvalidStretch" "given" .v 3]
def alls : List (Str × Kin) := [al1 "InvalidText" .v, al1 "InvalidStretch" .v, al1 "WrongValue" .v, al1 "WrongName" .l, al1 "NotPossible" .a]
def fplaces : List (Str × Nat) := [pl1 "is_integer" 9, pl1 "read_number" 12, pl1 "is_stretch" 14, pl1 "need_stretch" 15, pl1 "text_of_stretch" 16, pl1 "stretch_in_text" 17, pl1 "stretch_text" 18, pl1 "read_stretch" 19, pl1 "in_both" 20] ++
  [pl1 "_law_jar" 22, pl1 "_law_draw" 23, pl1 "_law_pick" 24, pl1 "_law_span" 25, pl1 "_law_whole" 26, pl1 "_law_is_span" 27, pl1 "_law_odd" 28, pl1 "_law_word" 29, pl1 "_law_number" 30] ++
  [pl1 "_law_told" 31, pl1 "_law_bent" 32, pl1 "_law_heard" 33, pl1 "_law_texts_right" 34, pl1 "_law_both_right" 35, pl1 "_law_right" 36, pl1 "law" 37, pl1 "_unit" 10, pl1 "_number_with" 11]
def funs : List Str := fplaces.map (·.1)
def nums : List (Str × Int) := [("MOST_NUMBER", 4000), ("_DIGITS_AT_ONCE", 100)]
def frees : List Str := (["len", "int", "abs", "divmod", "range", "isinstance", "repr", "enumerate", "bool", "tuple", "str", "list", "min", "max"] : List String).map Str.ofString
def dInit (e : Str × Str × Kin × Nat) : He.FnD := ⟨(e.1, some "__init__"), "__init__", e.1 ++ ".__init__", defArgs (inClass (topS e.2.2.2) 0), defBody (inClass (topS e.2.2.2) 0), defScope (inClass (topS e.2.2.2) 0)⟩
def dFun (p : Str × Nat) : He.FnD := ⟨(p.1, none), p.1, p.1, defArgs (topS p.2), defBody (topS p.2), defScope (topS p.2)⟩
def fn : List He.FnD := fplaces.map dFun ++ exs.map dInit
def tf : List He.Defn := [("_law_texts_right", none), ("_law_both_right", none), ("_law_right", none)]
def mroB (K : PySem.W.Frag) (x : Str) (l : List Value) : Bool := (match PySem.W.clsIn K (He.ga K x) with
  | some cd => decide (cd.mro = l)
  | none => false) && decide (PySem.W.typeIn K (.ref (He.ga K x)) = some (.type "type"))
def mros (K : PySem.W.Frag) : Bool := exs.all (fun e => mroB K e.1 ([.ref (He.ga K e.1), .ref (He.ga K "WrongValue")] ++ e.2.2.1.mro)) && ([al1 "WrongValue" .v, al1 "WrongName" .l, al1 "NotPossible" .a].all (fun e => mroB K e.1 (.ref (He.ga K e.1) :: e.2.mro)) &&
  !(He.ga K "InvalidText" == He.ga K "InvalidStretch"))
def neB (a b : Addr) : Bool := !decide (a = b)
def tabsNe (K : PySem.W.Frag) : Bool := neB (He.cT K ("_law_texts_right", none)).2 (He.cT K ("_law_both_right", none)).2 && (neB (He.cT K ("_law_texts_right", none)).2 (He.cT K ("_law_right", none)).2 && neB (He.cT K ("_law_both_right", none)).2 (He.cT K ("_law_right", none)).2)
def F (K : PySem.W.Frag) : Bool :=
  exs.all (fun e => exkB K e.2.2.1 e.1 e.2.1) && (alls.all (fun e => exaB K e.1 && (He.Fa.glo e.1).ok K) && (exsB K &&
  (funs.all (fun x => (He.Fa.glo x).ok K) && (frees.all (fun x => (He.Fa.free x).ok K) &&
  (nums.all (fun e => (He.Fa.int e.1 e.2).ok K) && (mros K && (tabsNe K && (K.lookup sysModules).isSome)))))))
abbrev R : PySem.W.OpenRow := PySem.W.OpenLaw.row PySem.Challenge.rw_toldcounts_k02_whole_stretches_and_their
abbrev hk : PySem.W.Hook := hookTM F fn tf
def ob (s : PySem.W.SharedT) : He.Al × Bool := obsTM F fn tf (HandSHeadRun.getT s)
theorem ob_eq (s : PySem.W.SharedT) : ob s = hk.obs s.abs := obsTM_eq (HandSHeadRun.getT_eq s)
def loose : List Str := alls.map (·.1) ++ (nums.map (·.1) ++ (("_unit" : Str) :: "_number_with" :: funs.take 24))
theorem run (w : World) : HandSHeadRun.RunEq R (PySem.W.view R.prog [37]) hk ob 14000 loose w := by
  intro os
  kernel_rfl
end K02
namespace K02
open PySem PySem.Spec PyProof.Rows L2 Tc
/-- what is known of the module's names: built-ins that are called -/
structure Bl (mg : Str → Option Value) : Prop where
  len : mg "len" = none
  int : mg "int" = none
  abs : mg "abs" = none
  divmod : mg "divmod" = none
  range : mg "range" = none
  isinstance : mg "isinstance" = none
  repr : mg "repr" = none
  enumerate : mg "enumerate" = none
/-- a jar stands at a -/
def Jar (H : Hp) (a : Addr) : Prop := ∃ d x c : Int, H a = some (.lst [.int d, .int x, .int c]) ∧ 0 ≤ d ∧ 0 ≤ x
/-- all but what stands at a is as it was -/
def But (a : Addr) (H H' : Hp) : Prop := ∀ b o, H b = some o → b ≠ a → H' b = some o
theorem mem_of_cut {ns : List Int} {lo hi : Option Int} {i : Nat} {y : V} (h : (cutV (ns.map V.int) lo hi)[i]? = some y) : ∃ z, y = V.int z := by
  have m : y ∈ cutV (ns.map V.int) lo hi := List.mem_of_getElem? h
  have m2 := List.mem_of_mem_drop (List.mem_of_mem_take m)
  obtain ⟨z, _, e⟩ := List.mem_map.mp m2
  exact ⟨z, e.symm⟩
theorem emod_ge {a b : Int} (h : 0 < b) : 0 ≤ a % b := Int.emod_nonneg a (by omega)
section
variable {P : Program} {w : World} {K : PySem.W.Frag} {mg : Str → Option Value} {base : Heap}
theorem scJar : FnScope ["_law_script", "_law_k", "_law_seed", "_law_cell", "_law_digits"] ["_law_script", "_law_k"] (defScope s_jar) :=
  ⟨rfl, rfl, rfl, by decide +kernel, rfl, by decide +kernel, by decide +kernel⟩
theorem gJar_int : (defScope s_jar).names.lookup ("int" : Str) = some .globalImplicit := by decide +kernel
theorem gJar_len : (defScope s_jar).names.lookup ("len" : Str) = some .globalImplicit := by decide +kernel
theorem gJar_abs : (defScope s_jar).names.lookup ("abs" : Str) = some .globalImplicit := by decide +kernel
/-- the jar of a script -/
def spJar (K : PySem.W.Frag) : Sp := fun vs H Q _ => ∃ (a : Addr) (ns : List Int) (k : Nat), vs = [.ref a, .int k] ∧ k < 2 ∧ SqL K H a (ns.map V.int) ∧ ns.length ≤ 63 ∧
  ∀ (H' : Hp) (p : Addr), H p = none → Same H H' → Jar H' p → Q (.ref p) H'
theorem ok_jar {f : Addr} {fd : FuncData} (F : Fun K "_law_jar" "_law_jar" s_jar f fd) (T : Bl mg) :
    FnOk P w K mg base CX0 1 f fd ["_law_script", "_law_k"] (spJar K) := by
  refine F.ok scJar (fun vs H Q E h => ?_) (fun cdv A outer s H vs Q E hr h => ?_)
  · obtain ⟨a, ns, k, rfl, _⟩ := h
    rfl
  · obtain ⟨a, ns, k, rfl, hk, hS, hlen, hQ⟩ := h
    refine ⟨_, pss_cons (ps_set (i := 2) scJar.nd rfl (.inl rfl) (pe_op op_add (pe_op op_mul pe_int (pv 1)) pe_int))
      (pss_cons (ps_for PassesOwn.never rfl (pi_list (pe_slice sl_list (pv 0) po_none (po_some pe_int))) (pg_name (i := 3) scJar.nd rfl (.inl rfl))
        (pss_one (ps_set (i := 2) scJar.nd rfl (.inl rfl) (pe_op op_mod (pe_callTy call_int1 gJar_int T.int (by decide +kernel)
          (pa_cons (pe_op op_add (pe_op op_mul (pv 2) pe_int) (pe_callTy call_int1 gJar_int T.int (by decide +kernel) (pa_cons (pv 3) pa_nil))) pa_nil)) pe_int))))
      (pss_mid (ps_set (i := 3) scJar.nd rfl (.inl rfl) (pe_ifExp (pt_cmpR op_lt (pv 1) (pe_callB call_len gJar_len T.len (by decide +kernel) (pa_cons (pv 0) pa_nil)) (nomark _))
        (pe_callTy call_int1 gJar_int T.int (by decide +kernel) (pa_cons (pe_ix ix_list (pv 0) (pv 1) (fun _ _ => rfl)) pa_nil)) (pv 2)))
      (pss_mid (ps_set (i := 4) scJar.nd rfl (.inl rfl) (pe_ifExp (PW.pt (pw_or (pt_cmpR op_lt (pv 3) pe_int (nomark _)) (pw_or1 (pt_cmpR op_ge (pv 3) (pe_op op_pow pe_int pe_int) (nomark _)))))
        (pe_callB call_abs gJar_abs T.abs (by decide +kernel) (pa_cons (pv 3) pa_nil)) pe_int))
      (pss_one (ps_ret (pe_lst (pa_cons (pv 4) (pa_cons (pe_op op_mod (pe_callTy call_int1 gJar_int T.int (by decide +kernel)
        (pa_cons (pe_op op_add (pe_op op_add (pv 2) (pe_op op_mul (pv 3) pe_int)) pe_int) pa_nil)) pe_int) (pa_cons pe_int pa_nil))))))))), ?_⟩
    -- seed = 90173 * k + 211
    refine ⟨_, rfl, _, _, rfl, rfl, .inl ⟨by decide, by decide⟩, _, _, rfl, rfl, ?_⟩
    -- for cell in script[:12]
    refine ⟨_, rfl, _, rfl, a, _, rfl, hS, fun p hp => ?_⟩
    have s0 : Same H (upd H p (.lst (cutV (ns.map V.int) none (some 12)))) := fun b o e => by
      rw [upd_ne (ne_of_none e hp)]
      exact e
    refine ⟨p, rfl, ⟨_, .inl (.inl upd_same)⟩, for_list (K := K) (a := p) (xs := cutV (ns.map V.int) none (some 12))
      (fun _ σ H2 => ∃ (seed : Int) (v : Option V), σ = [some (.ref a), some (.int k), some (.int seed), v, none] ∧
        Same (upd H p (.lst (cutV (ns.map V.int) none (some 12)))) H2 ∧ 0 ≤ seed)
      ⟨_, none, rfl, Same.refl _, by omega⟩ (fun _ _ _ _ ⟨_, _, _, s2, _⟩ => .inl (.inl (s2 _ _ upd_same))) ?_ ?_⟩
    · rintro i y σ H2 hi ⟨seed, v, rfl, s2, h0⟩
      obtain ⟨z, rfl⟩ := mem_of_cut hi
      refine ⟨_, rfl, _, _, rfl, rfl, .inr ⟨by decide, by decide⟩, _, rfl, .inl ⟨_, rfl, _, _, rfl, rfl, .inl ⟨_, rfl, _, _, rfl, rfl, ?_, ?_⟩⟩⟩
      · show (0 : Int) < 2147483587
        decide
      · exact ⟨_, _, rfl, s2, emod_ge (by decide)⟩
    · rintro σ H2 ⟨seed, v, rfl, s2, h0⟩
      have s3 : Same H H2 := s0.trans s2
      -- cell = int(script[k]) if k < len(script) else seed
      refine ⟨fun σ' H' => H' = H2 ∧ ∃ z : Int, σ' = [some (.ref a), some (.int k), some (.int seed), some (.int z), none], ?_, ?_⟩
      · refine ⟨_, rfl, _, rfl, _, _, rfl, .inl ⟨_, s3.seq hS, rfl⟩, _, _, rfl, rfl, _, rfl, ?_⟩
        refine ite2 (fun hc => ?_) (fun _ => ⟨_, rfl, rfl, _, rfl⟩)
        rw [List.length_map] at hc
        have hk2 : k < ns.length := by have := of_decide_eq_true hc; omega
        have hat : atI (ns.map V.int) (k : Int) = some (V.int ns[k]) := atI_nat (by simp [hk2])
        exact ⟨_, rfl, _, rfl, a, _, _, _, rfl, rfl, s3.seq hS, hat, .inl ⟨_, rfl, rfl, _, rfl⟩⟩
      rintro σ' H' ⟨rfl, z, rfl⟩
      -- digits = abs(cell) if cell < 0 or cell >= 10 ** 18 else 0
      refine ⟨fun σ' H3 => H3 = H' ∧ ∃ d : Int, 0 ≤ d ∧ σ' = [some (.ref a), some (.int k), some (.int seed), some (.int z), some (.int d)], ?_, ?_⟩
      · have absd : ∀ z : Int, 0 ≤ (if z < 0 then -z else z) := fun z => by split <;> omega
        refine ⟨_, rfl, _, _, rfl, rfl, _, rfl, ?_⟩
        refine ite2 (fun _ => ?_) (fun _ => ?_)
        · exact ⟨_, rfl, _, rfl, rfl, _, absd _, rfl⟩
        · refine ⟨_, rfl, _, _, rfl, rfl, ⟨by decide, by decide, by decide⟩, _, _, rfl, rfl, _, rfl, ?_⟩
          refine ite2 (fun _ => ?_) (fun _ => ?_)
          · exact ⟨_, rfl, _, rfl, rfl, _, absd _, rfl⟩
          · exact ⟨rfl, 0, by decide, rfl⟩
      rintro σ' H3 ⟨rfl, d, hd, rfl⟩
      -- return [digits, int(seed + cell * 39373 + 17) % 2147483629, 0]
      refine ⟨_, rfl, _, rfl, _, rfl, _, _, rfl, rfl, .inr ⟨by decide, by decide⟩, _, _, rfl, rfl, _, _, rfl, rfl, .inl ⟨_, rfl, _, _, rfl, rfl, ?_, ?_⟩⟩
      · show (0 : Int) < 2147483629
        decide
      · refine ⟨by show 3 ≤ sizeLine; decide, fun p2 hp2 => ?_⟩
        refine hQ _ p2 (s3.free hp2) (fun b o e => ?_) ⟨_, _, _, upd_same, hd, emod_ge (by decide)⟩
        rw [upd_ne (ne_of_none (s3 b o e) hp2)]
        exact s3 b o e
end
end K02

namespace K02
open PySem PySem.Spec PyProof.Rows L2 Tc
theorem But.trans {a : Addr} {H H1 H2 : Hp} (x : But a H H1) (y : But a H1 H2) : But a H H2 := fun b o e n => y b o (x b o e n) n
theorem But.refl (a : Addr) (H : Hp) : But a H H := fun _ _ e _ => e
theorem But.put {a : Addr} {H H1 : Hp} {o : HO} (x : But a H H1) : But a H (upd H1 a o) := fun b u e n => by
  rw [upd_ne n]
  exact x b u e n
theorem But.new {a p : Addr} {H H1 : Hp} {o u : HO} (x : But a H H1) (ha : H1 a = some u) (h : H1 p = none) : But a H (upd H1 p o) := fun b u e n => by
  rw [upd_ne (ne_of_none (x b u e n) h)]
  exact x b u e n
theorem But.same {a : Addr} {H H1 H2 : Hp} (x : But a H H1) (y : Same H1 H2) : But a H H2 := fun b u e n => y b u (x b u e n)
theorem But.free {a p : Addr} {H H1 : Hp} {o : HO} (x : But a H H1) (ha : H a = some o) (hp : H1 p = none) (h1 : ∃ u, H1 a = some u) : H p = none := by
  cases q : H p with
  | none => rfl
  | some u =>
    by_cases e : p = a
    · subst e
      obtain ⟨u', hu⟩ := h1
      rw [hu] at hp
      cases hp
    · rw [x p u q e] at hp
      cases hp
section
variable {P : Program} {w : World} {K : PySem.W.Frag} {mg : Str → Option Value} {base : Heap}
theorem scDraw : FnScope ["_law_jar_here", "_law_size", "_law_seed", "_law_by", "_law_digit"] ["_law_jar_here", "_law_size"] (defScope s_draw) :=
  ⟨rfl, rfl, rfl, by decide +kernel, rfl, by decide +kernel, by decide +kernel⟩
theorem gDraw_int : (defScope s_draw).names.lookup ("int" : Str) = some .globalImplicit := by decide +kernel
theorem gDraw_divmod : (defScope s_draw).names.lookup ("divmod" : Str) = some .globalImplicit := by decide +kernel
def spDraw : Sp := fun vs H Q _ => ∃ (a : Addr) (n : Int), vs = [.ref a, .int n] ∧ Jar H a ∧ 0 < n ∧ n < 1073741824 ∧
  ∀ (r : Int) (H' : Hp), 0 ≤ r → r < n → Jar H' a → But a H H' → Q (.int r) H'
theorem ok_draw {f : Addr} {fd : FuncData} (F : Fun K "_law_draw" "_law_draw" s_draw f fd) (T : Bl mg) :
    FnOk P w K mg base CX0 1 f fd ["_law_jar_here", "_law_size"] spDraw := by
  refine F.ok scDraw (fun vs H Q E h => ?_) (fun cdv A outer s H vs Q E hr h => ?_)
  · obtain ⟨a, n, rfl, _⟩ := h
    rfl
  · obtain ⟨a, n, rfl, ⟨d, x, c, ha, hd, hx⟩, hn, hn2, hQ⟩ := h
    refine ⟨_, pss_cons (ps_par (by rfl) scDraw.nd (i := 2) (j := 3) rfl rfl (by decide) rfl rfl
        (pa_cons (pe_ix ix_list (pv 0) pe_int (fun _ _ => rfl)) (pa_cons (pe_op op_add (pe_op op_mod (pe_callTy call_int1 gDraw_int T.int (by decide +kernel)
          (pa_cons (pe_ix ix_list (pv 0) pe_int (fun _ _ => rfl)) pa_nil)) pe_int) pe_int) pa_nil)) (by rfl))
      (pss_cons (ps_asg (pe_op op_add (pe_ix ix_list (pv 0) pe_int (fun _ _ => rfl)) pe_int) (pg_sub (pv 0) pe_int set_list))
      (pss_cons (ps_asg (pe_op op_mod (pe_callTy call_int1 gDraw_int T.int (by decide +kernel) (pa_cons (pe_op op_add (pe_op op_add (pe_op op_mul (pv 2) (pv 3))
          (pe_op op_mul pe_int (pe_ix ix_list (pv 0) pe_int (fun _ _ => rfl)))) pe_int) pa_nil)) pe_int) (pg_sub (pv 0) pe_int set_list))
      (pss_cons (ps_if (pt_cmpR op_gt (pe_ix ix_list (pv 0) pe_int (fun _ _ => rfl)) pe_int (nomark _))
        (pss_cons (ps_asg (pe_callB call_divmod gDraw_divmod T.divmod (by decide +kernel) (pa_cons (pe_ix ix_list (pv 0) pe_int (fun _ _ => rfl)) (pa_cons (pv 1) pa_nil)))
            (pg_tup (by rfl) (pgs_cons (pg_sub (pv 0) pe_int set_list) (pgs_cons (pg_name (i := 4) scDraw.nd rfl (.inl rfl)) pgs_nil))))
          (pss_one (ps_ret (pv 4)))) pss_nil)
      (pss_one (ps_ret (pe_op op_mod (pe_callTy call_int1 gDraw_int T.int (by decide +kernel) (pa_cons (pe_op op_fdiv (pe_ix ix_list (pv 0) pe_int (fun _ _ => rfl)) pe_int) pa_nil)) (pv 1))))))), ?_⟩
    have hS : SqL K H a [.int d, .int x, .int c] := .inl (.inl ha)
    -- seed, by = jar[1], int(jar[1]) % 40009 + 20021
    refine ⟨_, rfl, a, _, _, _, rfl, rfl, hS, rfl, _, rfl, a, _, _, _, rfl, rfl, hS, rfl, .inl ⟨_, rfl, _, _, rfl, rfl, ?_, _, _, rfl, rfl, _, _, rfl, ?_⟩⟩
    · show (0 : Int) < 40009
      decide
    have m0 : 0 ≤ x % 40009 := emod_ge (by decide)
    have m1 : x % 40009 < 40009 := Int.emod_lt_of_pos _ (by decide)
    -- jar[2] = jar[2] + 1
    refine ⟨_, rfl, a, _, _, _, rfl, rfl, hS, rfl, _, _, rfl, rfl, _, rfl, a, _, _, 2, rfl, rfl, ha, rfl, ?_⟩
    -- jar[1] = ..
    have hS1 : SqL K (upd H a (.lst [.int d, .int x, .int (c + 1)])) a [.int d, .int x, .int (c + 1)] := .inl (.inl upd_same)
    refine ⟨_, rfl, _, rfl, _, _, rfl, rfl, .inr ⟨by omega, by omega⟩, _, rfl, a, _, _, _, rfl, rfl, hS1, rfl, _, _, rfl, rfl, .inl ⟨by decide, by decide⟩, _, _, rfl, rfl, _, _, rfl, rfl,
      .inl ⟨_, rfl, _, _, rfl, rfl, ?_, _, rfl, a, _, _, 1, rfl, rfl, upd_same, rfl, ?_⟩⟩
    · show (0 : Int) < 2147483629
      decide
    have hx1 : 0 ≤ (x * (x % 40009 + 20021) + 60013 * (c + 1) + 11) % 2147483629 := emod_ge (by decide)
    have hS2 : SqL K (upd (upd H a (.lst [.int d, .int x, .int (c + 1)])) a (.lst [.int d, .int ((x * (x % 40009 + 20021) + 60013 * (c + 1) + 11) % 2147483629), .int (c + 1)])) a [.int d, .int ((x * (x % 40009 + 20021) + 60013 * (c + 1) + 11) % 2147483629), .int (c + 1)] := .inl (.inl upd_same)
    have b2 : But a H (upd (upd H a (.lst [.int d, .int x, .int (c + 1)])) a (.lst [.int d, .int ((x * (x % 40009 + 20021) + 60013 * (c + 1) + 11) % 2147483629), .int (c + 1)])) := (But.refl a H).put.put
    -- if jar[0] > 0
    refine ⟨_, rfl, a, _, _, _, rfl, rfl, hS2, rfl, _, _, rfl, rfl, _, rfl, ?_⟩
    refine ite2 (fun _ => ?_) (fun _ => ?_)
    · -- jar[0], digit = divmod(jar[0], size); return digit
      refine ⟨_, rfl, a, _, _, _, rfl, rfl, hS2, rfl, _, rfl, _, _, rfl, ⟨hn, hn2⟩, fun p hp => ?_⟩
      have pa : p ≠ a := fun e => by
        rw [e, upd_same] at hp
        cases hp
      refine ⟨p, _, rfl, .inl (.inl upd_same), rfl, _, _, rfl, _, rfl, a, _, _, 0, rfl, rfl, by rw [upd_ne pa.symm, upd_same], rfl, _, _, rfl, rfl, ?_⟩
      refine ⟨_, rfl, hQ _ _ (emod_ge hn) (Int.emod_lt_of_pos _ hn) ⟨_, _, _, upd_same, Int.ediv_nonneg hd (by omega), hx1⟩ ?_⟩
      exact (b2.new upd_same hp).put
    · -- return int(jar[1] // 89) % size
      refine ⟨_, rfl, a, _, _, _, rfl, rfl, hS2, rfl, _, _, rfl, rfl, ⟨by decide, by decide⟩, .inl ⟨_, rfl, _, rfl, _, _, rfl, rfl, hn, ?_⟩⟩
      exact hQ _ _ (emod_ge hn) (Int.emod_lt_of_pos _ hn) ⟨_, _, _, upd_same, hd, hx1⟩ b2
end
end K02

namespace K02
open PySem PySem.Spec PyProof.Rows L2 Tc
section
variable {P : Program} {w : World} {K : PySem.W.Frag} {mg : Str → Option Value} {base : Heap}
theorem scPick : FnScope ["_law_jar_here", "_law_menu"] ["_law_jar_here", "_law_menu"] (defScope s_pick) :=
  ⟨rfl, rfl, rfl, by decide +kernel, rfl, by decide +kernel, by decide +kernel⟩
theorem gPick_len : (defScope s_pick).names.lookup ("len" : Str) = some .globalImplicit := by decide +kernel
theorem gPick_draw : (defScope s_pick).names.lookup ("_law_draw" : Str) = some .globalImplicit := by decide +kernel
def spPick : Sp := fun vs H Q _ => ∃ (a m : Addr) (xs : List V), vs = [.ref a, .ref m] ∧ Jar H a ∧ H m = some (.lst xs) ∧ m ≠ a ∧ 0 < xs.length ∧ xs.length ≤ 1000 ∧
  ∀ (v : V) (H' : Hp), v ∈ xs → Jar H' a → But a H H' → Q v H'
theorem ok_pick {f : Addr} {fd : FuncData} (F : Fun K "_law_pick" "_law_pick" s_pick f fd) (T : Bl mg)
    (D : Call P w K mg base CX0 1 "_law_draw" ["_law_jar_here", "_law_size"] spDraw) :
    FnG P w K mg base CX0 2 f fd ["_law_jar_here", "_law_menu"] spPick := by
  refine Fun.okG F scPick (fun vs H Q E h => ?_) (fun cdv A outer s H vs Q E hr hgd h => ?_)
  · obtain ⟨a, m, xs, rfl, _⟩ := h
    rfl
  · obtain ⟨a, m, xs, rfl, hj, hm, hne, h0, h1, hQ⟩ := h
    refine ⟨_, pss_one (ps_ret (pe_ix ix_list (pv 1) (pe_do D hr hgd gPick_draw pass0 (pa_cons (pv 0) (pa_cons
      (pe_callB call_len gPick_len T.len (by decide +kernel) (pa_cons (pv 1) pa_nil)) pa_nil))) (fun _ _ => rfl))), ?_⟩
    refine ⟨_, rfl, _, rfl, _, rfl, _, _, rfl, .inl ⟨_, .inl (.inl hm), rfl⟩, a, _, rfl, hj, by omega, by omega, fun r H' hr0 hr1 hj' hb => ?_⟩
    have hlt : r.toNat < xs.length := by omega
    have hat : atI xs r = some xs[r.toNat] :=
      (congrArg (atI xs) (show r = ((r.toNat : Nat) : Int) by omega)).trans (atI_nat (by simp [hlt]))
    exact ⟨m, xs, r, _, rfl, rfl, .inl (.inl (hb m _ hm hne)), hat, hQ _ _ (List.getElem_mem hlt) hj' hb⟩
end
end K02
namespace K02
open PySem PySem.Spec PyProof.Rows L2 Tc Evl
/-- the classes that a lambda's exceptions have: that of stretches, that of texts -/
structure Hx (K : PySem.W.Frag) (mg : Str → Option Value) (CS CT : Addr) : Prop where
  ws : mg "WrongValue" = some (.ref (He.ga K "WrongValue"))
  wn : mg "WrongName" = some (.ref (He.ga K "WrongName"))
  np : mg "NotPossible" = some (.ref (He.ga K "NotPossible"))
  gs : mg "InvalidStretch" = some (.ref CS)
  gt : mg "InvalidText" = some (.ref CT)
  isin : mg "isinstance" = none
  caught : ∀ C, C = CS ∨ C = CT → PySem.W.exmAny K (.ref C) [.ref (He.ga K "WrongValue"), .ref (He.ga K "WrongName"), .ref (He.ga K "NotPossible")] = some true
  exa : ∀ C, C = CS ∨ C = CT → ExA K C
  noF : ∀ C, C = CS ∨ C = CT → PySem.W.findIn K (.ref C) "given" = some none
  k1 : ∀ C, C = CS ∨ C = CT → PySem.W.kitOne K (.ref C) (.ref CS) = some (decide (C = CS))
  k2 : ∀ C, C = CS ∨ C = CT → PySem.W.kitOne K (.ref C) (.ref CT) = some (decide (C = CT))
  ne : CS ≠ CT
/-- the suite of a def's only clause -/
def suiteOf (st : Stmt) : List Stmt := match defBody st with
  | [.Try _ [.ExceptHandler _ _ b _] _ _ _] => b
  | _ => []
/-- with something that is first known when it runs -/
theorem pss_ex {ι : Type} {X : Cx} {body : List Stmt} {c : ι → Prop} {t : ι → TS} (h : ∀ i, c i → PSs X body (t i)) : PSs X body (fun D σ H => ∃ i, c i ∧ t i D σ H) := by
  constructor
  intro pins s σ H D I hh
  obtain ⟨i, hc, ht⟩ := hh
  exact (h i hc).run pins s σ H D I ht
/-- the slots are as many as the names -/
theorem takes_len {X : Cx} {W : WX} (tk : Takes X W) : Takes X (fun cls d σ H => σ.length = X.N.length → W cls d σ H) := fun u s' x => by
  obtain ⟨a, B, sI, pins, σ, H, cls, d, e, I, r1, r2, r3, r4, r5, r6, w⟩ := x
  exact tk u s' ⟨a, B, sI, pins, σ, H, cls, d, e, I, r1, r2, r3, r4, r5, r6, w I.len⟩
/-- what it is called -/
def kindOf (CS C : Addr) : Str := if C = CS then "stretch" else "text"
/-- _law_heard of a lambda: what is told, or of which kind the error is, and what it keeps -/
def TTh (CS CT : Addr) : (XK → Hp → VK → Prop) → Hp → VK → Prop := fun tl H Q =>
  tl (fun cls d H' => ∃ (C dd : Addr) (v : V), cls = .ref C ∧ (C = CS ∨ C = CT) ∧ d = some dd ∧ H' dd = some (.xd [("given", v)]) ∧ ∀ p H2, H' p = none → Same H' H2 → H2 p = some (.lst [.str (kindOf CS C), v]) → Q (.ref p) H2) H
    (fun v H1 => [V.str "told", v].length ≤ sizeLine ∧ ∀ p, H1 p = none → Q (.ref p) (upd H1 p (.lst [.str "told", v])))
theorem sc_heard : FnScope ["_law_act", "e", "_law_sort"] ["_law_act"] (defScope s_heard) := ⟨rfl, rfl, rfl, by decide +kernel, rfl, by decide +kernel, by decide +kernel⟩
theorem g_heard : ∀ x ∈ (["WrongValue", "WrongName", "NotPossible", "isinstance", "InvalidStretch", "InvalidText"] : List Str), (defScope s_heard).names.lookup x = some .globalImplicit := by decide +kernel
theorem heard_gives {X : Cx} {g : Addr} {cdg : Value} {q : Str} {CS CT : Addr} (T : Hx X.K X.mg CS CT) (h0 : ∀ f : Addr, (L2.start ["_law_act", "e", "_law_sort"] [V.ref f])[0]? = some (some (V.ref f))) :
    LamX.GivesTo X ["_law_act", "e", "_law_sort"] "_law_heard" (defScope s_heard) g cdg (defBody s_heard) "_law_act" q (TTh CS CT) := by
  intro f c' s H Q tl act hc h
  refine ⟨_, pss_one (ps_try_as3 (X := (cxOf C8.CX0 X.prog X.w X.K X.mg X.base ["_law_act", "e", "_law_sort"] "_law_heard" (defScope s_heard) g cdg X.A X.stack s H C8.E0).nox) (i := 1) (n := "e")
      (tb := fun W D σ H => ∃ Ech : XK, (∀ cls d σ' H', σ'.length = 3 → Ech cls d H' → W cls d σ' H') ∧ tRet (tLst (tCons (tC (.str "told")) (tCons (fun σZ HZ Q => σZ[0]? = some (some (.ref f)) ∧ HZ c' = some (LamX.CodeO c' q) ∧ tl Ech HZ Q) tNil))) D σ H)
      (ts := fun a cls d D σ HH => ∃ t : TS, (∀ (oe : Obj) (pn : List (Addr × Obj)), Zc cls d oe → (∃ vs, oe.data = .fields vs) →
        PSs ((cxOf C8.CX0 X.prog X.w X.K X.mg X.base ["_law_act", "e", "_law_sort"] "_law_heard" (defScope s_heard) g cdg X.A X.stack s H C8.E0).nox.suite a ((a, oe) :: pn)) (suiteOf s_heard) t) ∧ t D σ HH)
      rfl rfl sc_heard.nd rfl (by rfl) (g_heard _ (.head _)) T.ws (g_heard _ (.tail _ (.head _))) T.wn (g_heard _ (.tail _ (.tail _ (.head _)))) T.np
      (fun W pn xe tk _ => ?_) (fun a oe cls d pn hz hf => ?_)), ?_⟩
  · exact pss_ex fun Ech hW => pss_one (ps_ret (pe_lst (pa_cons pe_str (pa_cons (act _ pn xe Ech _ _ (takes_len tk) fun cls d σ' H' hE hl => hW cls d σ' H' hl hE) pa_nil))))
  · exact ⟨fun pins s' σ H' D I h' => by
      obtain ⟨t, ht, h'⟩ := h'
      exact (ht oe pn hz hf).run pins s' σ H' D I h'⟩
  · refine ⟨_, fun cls d σ' H' hl hE => ?_, h0 f, hc, h⟩
    obtain ⟨C, dd, v, rfl, hC, rfl, hd, hQ⟩ := hE
    refine ⟨T.caught C hC, fun a ha => ⟨_, fun oe pn hz hf => pss_cons (ps_set (i := 2) sc_heard.nd rfl (.inl rfl) (pe_lst
          (pa_cons (pe_callB (call_isH (T.exa C hC) hz hf) (g_heard _ (.tail _ (.tail _ (.tail _ (.head _))))) T.isin (by decide +kernel) (pa_cons (pv 1) (pa_cons (pe_glob (v := .ref CS) (g_heard _ (.tail _ (.tail _ (.tail _ (.tail _ (.head _)))))) T.gs rfl) pa_nil)))
          (pa_cons (pe_callB (call_isH (T.exa C hC) hz hf) (g_heard _ (.tail _ (.tail _ (.tail _ (.head _))))) T.isin (by decide +kernel) (pa_cons (pv 1) (pa_cons (pe_glob (v := .ref CT) (g_heard _ (.tail _ (.tail _ (.tail _ (.tail _ (.tail _ (.head _))))))) T.gt rfl) pa_nil))) pa_nil))))
        (pss_one (ps_ret (pe_ifExp (pt_cmpR op_eq (show PE _ _ (tBM X.K "list" (rCntB X.K) (tVar 2) (tCons (tC (.bl true)) tNil)) from pe_bm PySem.F.plainAttrs_list PySem.F.slot_list_count PySem.F.type_list_count mt_countB (pv 2) (pa_cons pe_bl pa_nil)) pe_int (nomark _))
          (pe_lst (pa_cons (pe_ifExp (pt_val (pe_ix (r := rIxL X.K) ix_list (pv 2) pe_int (fun _ _ => rfl))) pe_str pe_str) (pa_cons (pe_xf ⟨(T.exa C hC).ga, (T.exa C hC).gg, (T.exa C hC).ex, (T.exa C hC).own⟩ (T.noF C hC) hz hf (pv 1)) pa_nil)))
          (pe_lst (pa_cons pe_str (pa_cons pe_non pa_nil)))))), ?_⟩⟩
    -- _law_sort
    match σ', hl with
    | [y0, y1, y2], _ =>
    refine ⟨_, rfl, _, _, _, _, rfl, hd, .own _, T.k1 C hC, _, rfl, _, _, _, _, rfl, hd, .own _, T.k2 C hC, by show 2 ≤ sizeLine; decide, fun p hp => ?_⟩
    have s1 : Same H' (upd H' p (.lst [V.bl (decide (C = CS)), V.bl (decide (C = CT))])) := Same.new hp
    have one : [decide (C = CS), decide (C = CT)].count true = 1 := by
      have ne := T.ne
      rcases hC with rfl | rfl
      · rw [decide_eq_true rfl, decide_eq_false ne] <;> rfl
      · rw [decide_eq_false (fun z => ne z.symm), decide_eq_true rfl] <;> rfl
    refine ⟨_, rfl, .inl ⟨rfl, _, .inl (.inl upd_same)⟩, p, [decide (C = CS), decide (C = CT)], true, rfl, rfl, .inl (.inl upd_same), ?_⟩
    have kd : kindOf CS C = if decide (C = CS) = true then ("stretch" : Str) else "text" := by
      unfold kindOf
      by_cases z : C = CS
      · rw [if_pos z, if_pos (decide_eq_true z)]
      · rw [if_neg z, if_neg (by simpa using z)]
    have e1 : decide (V.int (([decide (C = CS), decide (C = CT)].count true : Nat) : Int) = V.int 1) = true := by
      rw [one] <;> rfl
    refine ⟨rfl, _, rfl, ?_⟩
    rw [e1]
    refine iteT ?_
    refine ⟨_, rfl, p, _, _, _, rfl, rfl, .inl (.inl upd_same), rfl, _, rfl, ?_⟩
    have fin : ∀ (w : Str), w = kindOf CS C → tXf a (.ref C) (some dd) C "given" (tVar 1) [y0, some (V.ref a), some (V.ref p)] (upd H' p (.lst [V.bl (decide (C = CS)), V.bl (decide (C = CT))]))
        (fun x H2 => [V.str w, x].length ≤ sizeLine ∧ ∀ p2, H2 p2 = none → Q (.ref p2) (upd H2 p2 (.lst [V.str w, x]))) := by
      rintro w rfl
      refine ⟨_, rfl, rfl, rfl, dd, _, v, rfl, s1 _ _ hd, by simp [List.lookup], by show 2 ≤ sizeLine; decide, fun p2 hp2 => ?_⟩
      exact hQ p2 _ (s1.free hp2) (s1.trans (Same.new hp2)) upd_same
    refine ite2 (fun c => ?_) (fun c => ?_)
    · exact fin _ (by rw [kd, if_pos c])
    · exact fin _ (by rw [kd, if_neg c])
end K02
namespace K02
open PySem PySem.Spec PyProof.Rows L2 Tc Evl
/-- is it an integer, no truth -/
def wholeB : PyData → Bool
  | .int _ => true
  | _ => false
/-- is it a stretch -/
def spanB : PyData → Bool
  | .tuple [.int a, .int b] => decide (0 ≤ a) && (decide (a ≤ b) && decide (b ≤ 4000))
  | _ => false
section
variable {P : Program} {w : World} {K : PySem.W.Frag} {mg : Str → Option Value} {base : Heap}
def spWhole : Sp := fun vs H Q _ => ∃ (v : V) (d : PyData), vs = [v] ∧ Dv H v d ∧ Q (.bl (wholeB d)) H
def spSpan : Sp := fun vs H Q _ => ∃ (v : V) (d : PyData), vs = [v] ∧ Dv H v d ∧ Q (.bl (spanB d)) H
theorem sc_is_integer : FnScope ["value"] ["value"] (defScope s_is_integer) := ⟨rfl, rfl, rfl, by decide +kernel, rfl, by decide +kernel, by decide +kernel⟩
theorem g_is_integer : ∀ x ∈ (["isinstance", "int", "bool"] : List Str), (defScope s_is_integer).names.lookup x = some .globalImplicit := by decide +kernel
theorem sc_whole : FnScope ["_law_value"] ["_law_value"] (defScope s_whole) := ⟨rfl, rfl, rfl, by decide +kernel, rfl, by decide +kernel, by decide +kernel⟩
theorem g_whole : ∀ x ∈ (["isinstance", "int", "bool"] : List Str), (defScope s_whole).names.lookup x = some .globalImplicit := by decide +kernel
theorem whole_eq (d : PyData) : (if tyIs (tyD d) "int" = true then !tyIs (tyD d) "bool" else false) = wholeB d := by
  rw [ty_int, ty_bool]
  cases d <;> rfl
/-- the reading of both -/
theorem whole_run {K : PySem.W.Frag} {H : Hp} {v : V} {d : PyData} {Q : VK} (h : Dv H v d) (q : Q (.bl (wholeB d)) H) :
    tAndV (tCB (rIsi K) (tCons (tVar 0) (tCons (tC (.ty "int")) tNil))) (tNotV (tCB (rIsi K) (tCons (tVar 0) (tCons (tC (.ty "bool")) tNil)))) [some v] H Q := by
  have e := whole_eq d
  refine q_isi rfl h (by decide) ⟨_, rfl, ?_⟩
  refine ite2 (fun c => ?_) (fun c => ?_)
  · rw [if_pos c] at e
    refine q_isi rfl h (by decide) ⟨_, rfl, ?_⟩
    rw [e]
    exact q
  · rw [if_neg c] at e
    rw [e]
    exact q
theorem ok_is_integer {f : Addr} {fd : FuncData} (F : Fun K "is_integer" "is_integer" s_is_integer f fd) (B : Bl mg) (h1 : mg "bool" = none) :
    FnOk P w K mg base CX0 1 f fd ["value"] spWhole := by
  refine F.ok sc_is_integer (fun vs H Q E h => ?_) (fun cdv A outer s H vs Q E hr h => ?_)
  · obtain ⟨v, d, rfl, _⟩ := h
    rfl
  · obtain ⟨v, d, rfl, hd, q⟩ := h
    exact ⟨_, pss_one (ps_ret (pe_and (pe_callB call_isi (g_is_integer _ (.head _)) B.isinstance (by decide +kernel) (pa_cons (pv 0) (pa_cons (pe_bltn (v := .ty "int") (g_is_integer _ (.tail _ (.head _))) B.int (by decide +kernel) rfl) pa_nil)))
      (pe_one (pe_not (pe_callB call_isi (g_is_integer _ (.head _)) B.isinstance (by decide +kernel) (pa_cons (pv 0) (pa_cons (pe_bltn (v := .ty "bool") (g_is_integer _ (.tail _ (.tail _ (.head _)))) h1 (by decide +kernel) rfl) pa_nil))))))),
      whole_run hd q⟩
end
end K02
namespace Tc
open PySem PySem.Spec PyProof.Rows L2
section
variable {P : Program} {w : World} {K : PySem.W.Frag} {mg mb : Str → Option Value} {CX : CXT}
  {k : Nat} {fa a : Addr} {cs : List (Addr × Addr)} {fd : FuncData} {x : Str} {sp : Sp} {s₁ : Shared} {vs : List Value} {ns : List Int}
/-- an empty table of code objects -/
abbrev tab0 : Obj := { cls := .none, data := .fields #[] }
abbrev scriptO (vs : List Value) : Obj := { cls := .type "list", data := .seq vs.toArray }
/-- the law's call, from a heap in which the tables and at most the script are tracked -/
theorem callT_from (KX : K.In s₁.heap) (hns : s₁.heap.Ns mainGlobals mg) (hb : s₁.heap.Ns builtinsNs mb)
    (hbb : ∀ y : Str, y ≠ "__name__" → mb y = bootBuiltins y) (hlim : s₁.heap.NoLimit) (hg : s₁.gens = #[])
    (hT : ∀ p ∈ cs, s₁.heap.get? p.2 = some tab0) (nT : ∀ p ∈ cs, K.lookup p.2 = none) (C : ∀ p ∈ cs, PySem.W.CodeHd s₁.heap p.1 p.2)
    (hbm : ∃ (bm : Addr) (ob : Obj), mg "__builtins__" = some (.ref bm) ∧ bm ≠ builtinsNs ∧ s₁.heap.get? bm = some ob ∧ ob.cls = .type "module" ∧ ob.dict = some builtinsNs ∧ ob.data = .plain)
    (ha : s₁.heap.get? a = some (scriptO vs)) (hr : Room k callerA)
    (F : ∀ base : Heap, K.In base → base.Ns mainGlobals mg → (∀ p ∈ cs, LamX.TabB base mg p.1 p.2) → FnG P w K mg base CX k fa fd [x] sp)
    (hbind : ∀ (s : Shared) (u : Value), BindsTo s fd ⟨[u], []⟩ [(x, u)])
    (hCX : ∀ H e s', CX [] H s₁ (fun _ _ _ => False) e s' → False)
    (H : Hp) (hH : ∀ p ∈ cs, H p.2 = some (.tbl #[])) (hO : ∀ b, H b = none ∨ b ∈ cs.map (·.2) ∨ ∃ o xs, H b = some (.frz o (.lst xs)))
    (hsp : sp [.ref a] H (fun v _ => v = .bl true) fun _ _ _ => False)
    (hok : HOk P w H s₁.heap) (hA : ∀ b, H b ≠ none → b = a ∨ b ∈ cs.map (·.2)) (hK : H a ≠ none → K.lookup a = none) :
    codeAny (model P w) callerA (.call (.ref fa) ⟨[.ref a], []⟩) (Behind s₁) s₁ := by
  have tabAt : ∀ b, b ∈ cs.map (·.2) → s₁.heap.get? b = some tab0 := by
    intro b hb
    obtain ⟨p, hp, rfl⟩ := List.mem_map.mp hb
    exact hT p hp
  have hid : ∀ {b : Addr} {o : Obj}, s₁.heap.get? b = some o → H b = none → (hidT s₁.heap H).get? b = some o := fun e n => hidT_get e n
  -- what is neither the script nor a table is not tracked
  have free : ∀ {b : Addr} {o : Obj}, s₁.heap.get? b = some o → (∀ vs n, o.data ≠ .seq vs n) → o.data ≠ .fields #[] → H b = none := by
    intro b o e h1 h2
    cases q : H b with
    | none => rfl
    | some u =>
      rcases hA b (by rw [q]; exact Option.some_ne_none u) with z | z
      · rw [z, ha] at e
        cases e
        exact (h1 _ _ rfl).elim
      · rw [tabAt b z] at e
        cases e
        exact (h2 rfl).elim
  have freeD : ∀ {b : Addr} {o : Obj} {es : Array DictEntry} {ep : Nat}, s₁.heap.get? b = some o → o.data = .dict es ep → H b = none := fun e d =>
    free e (fun vs n z => by rw [d] at z; cases z) (fun z => by rw [d] at z; cases z)
  have names : ∀ {b : Addr} {m : Str → Option Value}, s₁.heap.Ns b m → (hidT s₁.heap H).Ns b m := by
    rintro b m ⟨o, es, ep, e, d, r⟩
    exact ⟨o, es, ep, hid e (freeD e d), d, r⟩
  have written : K.In (hidT s₁.heap H) := by
    intro b o e
    refine hid (KX b o e) ?_
    cases q : H b with
    | none => rfl
    | some u =>
      rcases hA b (by rw [q]; exact Option.some_ne_none u) with z | z
      · rw [z] at e q
        rw [hK (by rw [q]; exact Option.some_ne_none u)] at e
        cases e
      · obtain ⟨p, hp, rfl⟩ := List.mem_map.mp z
        rw [nT p hp] at e
        cases e
  have TB : ∀ p ∈ cs, LamX.TabB (hidT s₁.heap H) mg p.1 p.2 := by
    intro p hp
    have here := hT p hp
    refine ⟨?_, ?_, ?_⟩
    · obtain ⟨o, us, file, tf, flags, tg, inF, text, tt, e1, r1, r2, r3, rest⟩ := C p hp
      refine ⟨o, us, file, tf, flags, tg, inF, text, tt, hid e1 (free e1 (fun vs n z => ?_) fun z => ?_), r1, r2, r3, rest⟩
      · rw [r2] at z
        cases z
      · rw [r2] at z
        cases z
        simp at r3
    · obtain ⟨bm, ob, b1, b2, b3, b4, b5, b6⟩ := hbm
      have nG : bm ≠ mainGlobals := by
        intro q
        obtain ⟨o, es, ep, e, d, _⟩ := hns
        rw [q, e] at b3
        cases b3
        rw [d] at b6
        cases b6
      have nP : bm ≠ p.2 := by
        intro q
        rw [q, here] at b3
        cases b3
        cases b6
      exact ⟨bm, ob, b1, b2, nG, nP, hid b3 (free b3 (fun vs n z => by rw [b6] at z; cases z) (fun z => by rw [b6] at z; cases z)), b4, b5, b6⟩
    · intro z
      obtain ⟨o, es, ep, e, d, _⟩ := hns
      rw [z, here] at e
      cases e
      cases d
  have e0 : Env0 P w K mg (hidT s₁.heap H) callerA [] s₁ H :=
    ⟨rfl, ⟨written, names hns, ⟨mb, names hb, hbb⟩, by obtain ⟨mc, h1, h2⟩ := hlim; exact ⟨mc, names h1, h2⟩⟩, fun b o e => of_hidT e, Nat.le_of_eq (hidT_size _ _), trivial,
      fun b h => (List.not_mem_nil (show b ∈ ([] : List Addr) from h)).elim, hok, .of_eq hg⟩
  have run := (F _ written (names hns) TB).run callerA [] s₁ H ⟨[.ref a], []⟩ [.ref a] [.ref a] _ _ hr rfl e0 (hbind s₁ (.ref a)) (.cons rfl .nil) hsp
  refine codeAny_mono run ?_
  intro r s' h
  rcases r with e | fl
  · exact (hCX H e s' h).elim
  cases fl with
  | next | brk | cont => exact False.elim h
  | ret u =>
    obtain ⟨v, H', os, bare, un, hok', rv, q⟩ := h
    have hv : v = .bl true := q
    subst hv
    have hu : u = Value.bool true := rv
    subst hu
    have old : ∀ b o, b ∉ cs.map (·.2) → s₁.heap.get? b = some o → s'.heap.get? b = some o := by
      intro b o nb e
      cases q : H b with
      | none => exact un.keep b o e q (fun z => nomatch (show b ∈ ([] : List Addr) from z)) (fun z => nomatch z)
      | some u =>
        rcases hO b with z | z | ⟨ob, xs, z⟩
        · rw [q] at z
          cases z
        · exact absurd z nb
        · have now := (hok b _ z).1
          have later := (hok' b _ (un.frzs b ob _ z)).1
          rw [e] at now
          cases now
          exact later
    have grown : ∀ p ∈ cs, ∃ more : Array Value, s'.heap.get? p.2 = some { cls := .none, data := .fields more } := by
      intro p hp
      obtain ⟨more, z⟩ := un.tbls p.2 #[] (hH p hp)
      exact ⟨_, hok' p.2 _ z⟩
    refine ⟨rfl, ⟨fun b o e => ?_, fun b o e => ?_⟩, os, bare⟩
    · by_cases hb : b ∈ cs.map (·.2)
      · obtain ⟨p, hp, rfl⟩ := List.mem_map.mp hb
        obtain ⟨more, hm⟩ := grown p hp
        rw [hT p hp] at e
        cases e
        exact .inr (.inl ⟨((C p hp).tab (hT p hp)).isCodeTable, rfl, #[], more, rfl, by rw [Array.empty_append]; exact hm⟩)
      · exact .inl (old b o hb e)
    · by_cases hb : b ∈ cs.map (·.2)
      · obtain ⟨p, hp, rfl⟩ := List.mem_map.mp hb
        obtain ⟨more, hm⟩ := grown p hp
        exact ⟨_, hm⟩
      · exact ⟨o, old b o hb e⟩
/-- the law's call -/
theorem law_callTG (KX : K.In s₁.heap) (hns : s₁.heap.Ns mainGlobals mg) (hb : s₁.heap.Ns builtinsNs mb)
    (hbb : ∀ y : Str, y ≠ "__name__" → mb y = bootBuiltins y) (hlim : s₁.heap.NoLimit) (hg : s₁.gens = #[])
    (hT : ∀ p ∈ cs, s₁.heap.get? p.2 = some tab0) (nT : ∀ p ∈ cs, K.lookup p.2 = none) (C : ∀ p ∈ cs, PySem.W.CodeHd s₁.heap p.1 p.2)
    (hbm : ∃ (bm : Addr) (ob : Obj), mg "__builtins__" = some (.ref bm) ∧ bm ≠ builtinsNs ∧ s₁.heap.get? bm = some ob ∧ ob.cls = .type "module" ∧ ob.dict = some builtinsNs ∧ ob.data = .plain)
    (ha : s₁.heap.get? a = some (scriptO vs)) (hi : IntsAre vs ns) (hl : ns.length ≤ sizeLine) (hr : Room k callerA)
    (F : ∀ base : Heap, K.In base → base.Ns mainGlobals mg → (∀ p ∈ cs, LamX.TabB base mg p.1 p.2) → FnG P w K mg base CX k fa fd [x] sp)
    (hbind : ∀ (s : Shared) (u : Value), BindsTo s fd ⟨[u], []⟩ [(x, u)])
    (hsp : ∀ H : Hp, (∀ p ∈ cs, H p.2 = some (.tbl #[])) → SqL K H a (ns.map V.int) → sp [.ref a] H (fun v _ => v = .bl true) fun _ _ _ => False)
    (hCX : ∀ H e s', CX [] H s₁ (fun _ _ _ => False) e s' → False) :
    codeAny (model P w) callerA (.call (.ref fa) ⟨[.ref a], []⟩) (Behind s₁) s₁ := by
  have rv := vals_ints hi
  have main := fun H hH hO hq => callT_from (sp := sp) KX hns hb hbb hlim hg hT nT C hbm ha hr F hbind hCX H hH hO hq
  have mem : ∀ p ∈ cs, p.2 ∈ cs.map (·.2) := fun p hp => List.mem_map.mpr ⟨p, hp, rfl⟩
  have tabAt : ∀ b, b ∈ cs.map (·.2) → s₁.heap.get? b = some tab0 := by
    intro b hb
    obtain ⟨p, hp, rfl⟩ := List.mem_map.mp hb
    exact hT p hp
  have aT : a ∉ cs.map (·.2) := by
    intro z
    have q := tabAt a z
    rw [ha] at q
    have z' : Data.seq vs.toArray _ = Data.fields #[] := congrArg Obj.data (Option.some.inj q)
    cases z'
  cases hk : K.lookup a with
  | some o =>
    have e := KX a o hk
    rw [ha] at e
    cases e
    let H : Hp := fun b => if b ∈ cs.map (·.2) then some (.tbl #[]) else none
    have on : ∀ {b : Addr}, b ∈ cs.map (·.2) → H b = some (.tbl #[]) := fun hb => if_pos hb
    have off : ∀ {b : Addr}, b ∉ cs.map (·.2) → H b = none := fun hb => if_neg hb
    refine main H (fun p hp => on (mem p hp)) (fun b => ?_) (hsp H (fun p hp => on (mem p hp)) (.inr ⟨_, vs.toArray, _, hk, rfl, rfl, rfl, ?_, by simpa using rv⟩)) (fun b u z => ?_) (fun b z => ?_) (fun z => absurd (off aT) z)
    · by_cases hb : b ∈ cs.map (·.2)
      · exact .inr (.inl hb)
      · exact .inl (off hb)
    · rw [List.size_toArray, hi.length]
      exact hl
    · by_cases hb : b ∈ cs.map (·.2)
      · rw [on hb] at z
        cases z
        exact tabAt b hb
      · rw [off hb] at z
        cases z
    · by_cases hb : b ∈ cs.map (·.2)
      · exact .inr hb
      · exact absurd (off hb) z
  | none =>
    let H : Hp := fun b => if b = a then some (.frz (scriptO vs) (.lst (ns.map V.int))) else if b ∈ cs.map (·.2) then some (.tbl #[]) else none
    have at_a : H a = some (.frz (scriptO vs) (.lst (ns.map V.int))) := if_pos rfl
    have on : ∀ {b : Addr}, b ∈ cs.map (·.2) → H b = some (.tbl #[]) := fun {b} hb => (if_neg (show ¬ b = a from fun z => aT (by rw [← z]; exact hb))).trans (if_pos hb)
    have off : ∀ {b : Addr}, b ≠ a → b ∉ cs.map (·.2) → H b = none := fun n hb => (if_neg n).trans (if_neg hb)
    refine main H (fun p hp => on (mem p hp)) (fun b => ?_) (hsp H (fun p hp => on (mem p hp)) (.inl (.inr ⟨_, at_a⟩))) (fun b u z => ?_) (fun b z => ?_) (fun _ => hk)
    · by_cases n : b = a
      · rw [n]
        exact .inr (.inr ⟨_, _, at_a⟩)
      · by_cases hb : b ∈ cs.map (·.2)
        · exact .inr (.inl hb)
        · exact .inl (off n hb)
    · by_cases n : b = a
      · subst n
        rw [at_a] at z
        cases z
        exact ⟨ha, by rw [List.length_map]; exact hl, vs, _, rv, ha⟩
      · by_cases hb : b ∈ cs.map (·.2)
        · rw [on hb] at z
          cases z
          exact tabAt b hb
        · rw [off n hb] at z
          cases z
    · by_cases n : b = a
      · exact .inl n
      · by_cases hb : b ∈ cs.map (·.2)
        · exact .inr hb
        · exact absurd (off n hb) z
end
/-- the end of a law's row, from a word about the head, with tables -/
theorem walk_endTG {l : PySem.W.OpenLaw} {n k : Nat} {q : Program} {loose : List Str} {XP : (Str → Option Value) → Heap → Prop} {YP : World → Heap → Prop} {d : DefRec} {CX : World → CXT} {x : Str}
    (hm : l.most = some n) (hs : n ≤ sizeLine) (h0 : d.params.defaults = []) (hr : Room k callerA)
    (F : ∀ (w : World) (mg : Str → Option Value) (fa : Addr) (h : Heap), YP w h → h.Ns mainGlobals mg → mg d.name = some (.ref fa) →
      ∃ (K : PySem.W.Frag) (fd : FuncData) (cs : List (Addr × Addr)) (sp : Sp), K.In h ∧ (∀ (s : Shared) (u : Value), BindsTo s fd ⟨[u], []⟩ [(x, u)]) ∧
        ((∀ p ∈ cs, h.get? p.2 = some tab0) ∧ (∀ p ∈ cs, K.lookup p.2 = none) ∧ ∀ p ∈ cs, PySem.W.CodeHd h p.1 p.2) ∧
        (∀ base : Heap, K.In base → base.Ns mainGlobals mg → (∀ p ∈ cs, LamX.TabB base mg p.1 p.2) → FnG l.prog w K mg base (CX w) k fa fd [x] sp) ∧
        ∀ (H : Hp) (a : Addr) (ns : List Int), ns.length ≤ n → (∀ p ∈ cs, H p.2 = some (.tbl #[])) → SqL K H a (ns.map V.int) → sp [.ref a] H (fun v _ => v = .bl true) fun _ _ _ => False)
    (hX : ∀ (w : World) (H : Hp) (s : Shared) (e : Value) (s' : Shared), ¬ CX w [] H s (fun _ _ _ => False) e s') :
    PySem.W.WalkO q loose XP YP l.row.toRowW d [] (fun f vs => PySem.call f vs) := by
  refine Att.attach_callB hm h0 ?_
  intro w s₀ s₁ mg mb fa o pm cd doc a vs ns G Y ho hd hcd hmg hobj hints hlen hbits hg
  obtain ⟨K, fd, cs, sp, KX, hb, ⟨hT, nT, C⟩, hF, hsp⟩ := F w mg fa _ Y G.T.g hmg
  exact law_callTG KX G.T.g G.T.b G.T.builtins G.T.nolimit hg hT nT C G.T.bmain hobj hints (Nat.le_trans hlen hs) hr hF hb
    (fun H hH hS => hsp H a ns hlen hH hS) (fun H e s' => hX w H s₁ e s')
end Tc
namespace K02
open PySem PySem.Spec PyProof.Rows L2 Tc Evl
section
variable {P : Program} {w : World} {K : PySem.W.Frag} {mg : Str → Option Value} {base : Heap}
theorem sc_is_stretch : FnScope ["value", "low", "high"] ["value"] (defScope s_is_stretch) := ⟨rfl, rfl, rfl, by decide +kernel, rfl, by decide +kernel, by decide +kernel⟩
theorem g_is_stretch : ∀ x ∈ (["isinstance", "tuple", "len", "is_integer", "MOST_NUMBER"] : List Str), (defScope s_is_stretch).names.lookup x = some .globalImplicit := by decide +kernel
theorem two_of {α : Type} : ∀ {l : List α}, l.length = 2 → ∃ a b, l = [a, b]
  | [a, b], _ => ⟨a, b, rfl⟩
  | [], h | [_], h | _ :: _ :: _ :: _, h => by simp at h
/-- data that is no tuple of two is no stretch -/
theorem span_no {d : PyData} (h : ∀ a b, d ≠ .tuple [a, b]) : spanB d = false := by
  unfold spanB
  split
  · rename_i a b
    exact (h _ _ rfl).elim
  · rfl
theorem span_two (x y : PyData) : spanB (.tuple [x, y]) = (wholeB x && (wholeB y && (match x, y with
  | .int a, .int b => decide (0 ≤ a) && (decide (a ≤ b) && decide (b ≤ 4000))
  | _, _ => false))) := by
  cases x <;> cases y <;> rfl
theorem ok_is_stretch {f : Addr} {fd : FuncData} (F : Fun K "is_stretch" "is_stretch" s_is_stretch f fd) (B : Bl mg) (h1 : mg "tuple" = none) (hn : ∃ t, mg "MOST_NUMBER" = some (.int 4000 t))
    (D : CallO P w K mg base CX0 1 "is_integer" ["value"] spWhole) : FnOk P w K mg base CX0 2 f fd ["value"] spSpan := by
  refine F.ok sc_is_stretch (fun vs H Q E h => ?_) (fun cdv A outer s H vs Q E hr h => ?_)
  · obtain ⟨v, d, rfl, _⟩ := h
    rfl
  · obtain ⟨v, d, rfl, hd, q⟩ := h
    refine ⟨_, pss_cons (ps_if (PW.pt (pw_or (pt_not (pt_val (pe_callB call_isi (g_is_stretch _ (.head _)) B.isinstance (by decide +kernel) (pa_cons (pv 0) (pa_cons (pe_bltn (v := .ty "tuple") (g_is_stretch _ (.tail _ (.head _))) h1 (by decide +kernel) rfl) pa_nil)))))
        (pw_or1 (pt_cmpR op_ne (pe_callB call_len (g_is_stretch _ (.tail _ (.tail _ (.head _)))) B.len (by decide +kernel) (pa_cons (pv 0) pa_nil)) pe_int (nomark _))))) (pss_one (ps_ret pe_bl)) pss_nil)
      (pss_cons (ps_asg (pv 0) (pg_tup (by rfl) (pgs_cons (pg_name (i := 1) sc_is_stretch.nd rfl (.inl rfl)) (pgs_cons (pg_name (i := 2) sc_is_stretch.nd rfl (.inl rfl)) pgs_nil))))
      (pss_one (ps_ret (pe_and (pe_doO D hr (g_is_stretch _ (.tail _ (.tail _ (.tail _ (.head _))))) pass0 (pa_cons (pv 1) pa_nil)) (pe_and (pe_doO D hr (g_is_stretch _ (.tail _ (.tail _ (.tail _ (.head _))))) pass0 (pa_cons (pv 2) pa_nil))
        (pe_one (pe_chain3 op_le op_le op_le pe_int (pv 1) (pv 2) (pe_num (x := "MOST_NUMBER") hn (g_is_stretch _ (.tail _ (.tail _ (.tail _ (.tail _ (.head _)))))))))))))), ?_⟩
    refine q_isi rfl hd (by decide) ⟨_, rfl, ?_⟩
    rw [ty_tuple]
    have no : (∀ a b, d ≠ .tuple [a, b]) → Q (.bl false) H := fun h => by
      have e := span_no h
      rw [e] at q
      exact q
    cases d with
    | tuple ds =>
      refine iteF ?_
      obtain ⟨a, xs, rfl, ha, hx⟩ := hd.isT
      have hl := hx.len
      refine ⟨_, rfl, _, xs.length, rfl, .inr ⟨xs, .inl ha, rfl⟩, rfl, _, rfl, ?_⟩
      refine ite2 (fun c => ?_) (fun c => ?_)
      · refine no fun a b z => ?_
        cases z
        rw [hl] at c
        have c : (!decide (V.int ((2 : Nat) : Int) = V.int 2)) = true := c
        exact absurd c (by decide)
      · have h2 : xs.length = 2 := by
          by_cases z : xs.length = 2
          · exact z
          · refine absurd ?_ c
            show (!decide (V.int (xs.length : Int) = V.int 2)) = true
            rw [decide_eq_false (fun e => z (by have := V.int.inj e; omega))] <;> rfl
        obtain ⟨d1, d2, rfl⟩ := two_of (hl.symm.trans h2)
        cases hx with
        | @cons x1 _ _ _ e1 er =>
        cases er with
        | @cons x2 _ _ _ e2 er2 =>
        cases er2
        refine ⟨_, rfl, a, _, rfl, .inl ha, rfl, _, _, rfl, _, _, rfl, rfl, ?_⟩
        rw [span_two] at q
        refine ⟨_, rfl, x1, d1, rfl, e1, _, rfl, ?_⟩
        refine ite2 (fun c1 => ?_) (fun c1 => ?_)
        · rw [c1] at q
          refine ⟨_, rfl, x2, d2, rfl, e2, _, rfl, ?_⟩
          refine ite2 (fun c2 => ?_) (fun c2 => ?_)
          · rw [c2] at q
            cases d1 with
            | int i =>
              cases d2 with
              | int j =>
                cases e1
                cases e2
                have q : Q (.bl (decide (0 ≤ i) && (decide (i ≤ j) && decide (j ≤ 4000)))) H := q
                refine ⟨_, rfl, _, _, rfl, rfl, _, rfl, ?_⟩
                refine ite2 (fun c3 => ?_) (fun c3 => ?_)
                · refine ⟨_, rfl, _, _, rfl, rfl, _, rfl, ?_⟩
                  refine ite2 (fun c4 => ?_) (fun c4 => ?_)
                  · refine ⟨_, _, rfl, rfl, ?_⟩
                    rw [c3, c4] at q
                    exact q
                  · have c4 := Bool.eq_false_iff.mpr c4
                    rw [c3, c4] at q
                    exact q
                · have c3 := Bool.eq_false_iff.mpr c3
                  rw [c3] at q
                  exact q
              | _ => exact absurd (show false = true from c2) (by decide)
            | _ => exact absurd (show false = true from c1) (by decide)
          · have c2 := Bool.eq_false_iff.mpr c2
            rw [c2] at q
            exact q
        · have c1 := Bool.eq_false_iff.mpr c1
          rw [c1] at q
          exact q
    | _ => exact iteT (no fun a b z => nomatch z)
theorem sc_is_span : FnScope ["_law_value"] ["_law_value"] (defScope s_is_span) := ⟨rfl, rfl, rfl, by decide +kernel, rfl, by decide +kernel, by decide +kernel⟩
theorem g_is_span : ∀ x ∈ (["isinstance", "tuple", "len", "_law_whole"] : List Str), (defScope s_is_span).names.lookup x = some .globalImplicit := by decide +kernel
theorem ok_whole {f : Addr} {fd : FuncData} (F : Fun K "_law_whole" "_law_whole" s_whole f fd) (B : Bl mg) (h1 : mg "bool" = none) :
    FnOk P w K mg base CX0 1 f fd ["_law_value"] spWhole := by
  refine F.ok sc_whole (fun vs H Q E h => ?_) (fun cdv A outer s H vs Q E hr h => ?_)
  · obtain ⟨v, d, rfl, _⟩ := h
    rfl
  · obtain ⟨v, d, rfl, hd, q⟩ := h
    exact ⟨_, pss_one (ps_ret (pe_and (pe_callB call_isi (g_whole _ (.head _)) B.isinstance (by decide +kernel) (pa_cons (pv 0) (pa_cons (pe_bltn (v := .ty "int") (g_whole _ (.tail _ (.head _))) B.int (by decide +kernel) rfl) pa_nil)))
      (pe_one (pe_not (pe_callB call_isi (g_whole _ (.head _)) B.isinstance (by decide +kernel) (pa_cons (pv 0) (pa_cons (pe_bltn (v := .ty "bool") (g_whole _ (.tail _ (.tail _ (.head _)))) h1 (by decide +kernel) rfl) pa_nil))))))),
      whole_run hd q⟩
theorem ok_is_span {f : Addr} {fd : FuncData} (F : Fun K "_law_is_span" "_law_is_span" s_is_span f fd) (B : Bl mg) (h1 : mg "tuple" = none)
    (D : CallO P w K mg base CX0 1 "_law_whole" ["_law_value"] spWhole) : FnOk P w K mg base CX0 2 f fd ["_law_value"] spSpan := by
  refine F.ok sc_is_span (fun vs H Q E h => ?_) (fun cdv A outer s H vs Q E hr h => ?_)
  · obtain ⟨v, d, rfl, _⟩ := h
    rfl
  · obtain ⟨v, d, rfl, hd, q⟩ := h
    refine ⟨_, pss_cons (ps_if (PW.pt (pw_or (pt_not (pt_val (pe_callB call_isi (g_is_span _ (.head _)) B.isinstance (by decide +kernel) (pa_cons (pv 0) (pa_cons (pe_bltn (v := .ty "tuple") (g_is_span _ (.tail _ (.head _))) h1 (by decide +kernel) rfl) pa_nil)))))
        (pw_or (pt_cmpR op_ne (pe_callB call_len (g_is_span _ (.tail _ (.tail _ (.head _)))) B.len (by decide +kernel) (pa_cons (pv 0) pa_nil)) pe_int (nomark _))
        (pw_or (pt_not (pt_val (pe_doO D hr (g_is_span _ (.tail _ (.tail _ (.tail _ (.head _))))) pass0 (pa_cons (pe_ix ix_tup (pv 0) pe_int (fun _ _ => rfl)) pa_nil))))
        (pw_or1 (pt_not (pt_val (pe_doO D hr (g_is_span _ (.tail _ (.tail _ (.tail _ (.head _))))) pass0 (pa_cons (pe_ix ix_tup (pv 0) pe_int (fun _ _ => rfl)) pa_nil))))))))) (pss_one (ps_ret pe_bl)) pss_nil)
      (pss_one (ps_ret (pe_chain3 op_le op_le op_le pe_int (pe_ix ix_tup (pv 0) pe_int (fun _ _ => rfl)) (pe_ix ix_tup (pv 0) pe_int (fun _ _ => rfl)) pe_int))), ?_⟩
    refine q_isi rfl hd (by decide) ⟨_, rfl, ?_⟩
    rw [ty_tuple]
    have no : (∀ a b, d ≠ .tuple [a, b]) → Q (.bl false) H := fun h => by
      have e := span_no h
      rw [e] at q
      exact q
    cases d with
    | tuple ds =>
      refine iteF ?_
      obtain ⟨a, xs, rfl, ha, hx⟩ := hd.isT
      have hl := hx.len
      refine ⟨_, rfl, _, xs.length, rfl, .inr ⟨xs, .inl ha, rfl⟩, rfl, _, rfl, ?_⟩
      refine ite2 (fun c => ?_) (fun c => ?_)
      · refine iteT (no fun a b z => ?_)
        cases z
        rw [hl] at c
        have c : (!decide (V.int ((2 : Nat) : Int) = V.int 2)) = true := c
        exact absurd c (by decide)
      · have h2 : xs.length = 2 := by
          by_cases z : xs.length = 2
          · exact z
          · refine absurd ?_ c
            show (!decide (V.int (xs.length : Int) = V.int 2)) = true
            rw [decide_eq_false (fun e => z (by have := V.int.inj e; omega))] <;> rfl
        obtain ⟨d1, d2, rfl⟩ := two_of (hl.symm.trans h2)
        cases hx with
        | @cons x1 _ _ _ e1 er =>
        cases er with
        | @cons x2 _ _ _ e2 er2 =>
        cases er2
        rw [span_two] at q
        refine ⟨_, rfl, a, _, 0, x1, rfl, rfl, .inl ha, rfl, x1, d1, rfl, e1, _, rfl, ?_⟩
        cases hw1 : wholeB d1 with
        | false =>
          rw [hw1] at q
          exact iteT (iteT q)
        | true =>
          rw [hw1] at q
          refine iteF ⟨_, rfl, a, _, 1, x2, rfl, rfl, .inl ha, rfl, x2, d2, rfl, e2, _, rfl, ?_⟩
          cases hw2 : wholeB d2 with
          | false =>
            rw [hw2] at q
            exact iteT q
          | true =>
            rw [hw2] at q
            refine iteF ?_
            cases d1 with
            | int i =>
              cases d2 with
              | int j =>
                cases e1
                cases e2
                have q : Q (.bl (decide (0 ≤ i) && (decide (i ≤ j) && decide (j ≤ 4000)))) H := q
                refine ⟨_, rfl, a, _, 0, _, rfl, rfl, .inl ha, rfl, _, _, rfl, rfl, _, rfl, ?_⟩
                refine ite2 (fun c3 => ?_) (fun c3 => ?_)
                · refine ⟨_, rfl, a, _, 1, _, rfl, rfl, .inl ha, rfl, _, _, rfl, rfl, _, rfl, ?_⟩
                  refine ite2 (fun c4 => ?_) (fun c4 => ?_)
                  · refine ⟨_, _, rfl, rfl, ?_⟩
                    rw [c3, c4] at q
                    exact q
                  · have c4 := Bool.eq_false_iff.mpr c4
                    rw [c3, c4] at q
                    exact q
                · have c3 := Bool.eq_false_iff.mpr c3
                  rw [c3] at q
                  exact q
              | _ => exact absurd (show false = true from hw2) (by decide)
            | _ => exact absurd (show false = true from hw1) (by decide)
    | _ => exact iteT (iteT (no fun a b z => nomatch z))
end
end K02
namespace Tc
open PySem
theorem str_empty_app (x : Str) : Str.empty ++ x = x := by
  obtain ⟨a⟩ := x
  show (⟨#[] ++ a⟩ : Str) = ⟨a⟩
  rw [Array.empty_append]
theorem str_len_app (x y : Str) : (x ++ y).length = x.length + y.length := by
  show (x.cps ++ y.cps).size = _
  rw [Array.size_append] <;> rfl
end Tc
namespace K02
open PySem PySem.Spec PyProof.Rows L2 Tc Evl
theorem span_ends {d : PyData} (h : spanB d = true) : ∃ a b : Int, d = .tuple [.int a, .int b] ∧ 0 ≤ a ∧ a ≤ b ∧ b ≤ 4000 := by
  unfold spanB at h
  split at h
  · rename_i a b
    obtain ⟨h1, h⟩ := Bool.and_eq_true_iff.mp h
    obtain ⟨h2, h3⟩ := Bool.and_eq_true_iff.mp h
    exact ⟨a, b, rfl, of_decide_eq_true h1, of_decide_eq_true h2, of_decide_eq_true h3⟩
  · cases h
/-- a stretch's text -/
def spanText (a b : Int) : Str := if a = b then (toString a : String) else ((toString a : String) ++ ("-" : Str) : Str) ++ ((toString b : String) : Str)
theorem int_len {a : Int} (h0 : 0 ≤ a) (h1 : a ≤ 4000) : (Str.ofString (toString a)).length ≤ 4 :=
  PyProof.Rows.toString_length_le h0 (by decide) (by omega)
theorem log_ok {a : Int} (h0 : 0 ≤ a) (h1 : a ≤ 4000) : a.natAbs.log2 < 1920 := by
  have h : a.natAbs < 2 ^ 12 := by omega
  have z : a.natAbs.log2 < 12 := by
    by_cases e : a.natAbs = 0
    · rw [e]
      decide
    · exact (Nat.log2_lt e).mpr h
  omega
section
variable {P : Program} {w : World} {K : PySem.W.Frag} {mg : Str → Option Value} {base : Heap}
theorem sc_text : FnScope ["stretch", "low", "high"] ["stretch"] (defScope s_text_of_stretch) := ⟨rfl, rfl, rfl, by decide +kernel, rfl, by decide +kernel, by decide +kernel⟩
def spText : Sp := fun vs H Q _ => ∃ (v : V) (a b : Int), vs = [v] ∧ Dv H v (.tuple [.int a, .int b]) ∧ 0 ≤ a ∧ a ≤ b ∧ b ≤ 4000 ∧ Q (.str (spanText a b)) H
theorem ok_text {f : Addr} {fd : FuncData} (F : Fun K "text_of_stretch" "text_of_stretch" s_text_of_stretch f fd) : FnOk P w K mg base CX0 1 f fd ["stretch"] spText := by
  refine F.ok sc_text (fun vs H Q E h => ?_) (fun cdv A outer s H vs Q E hr h => ?_)
  · obtain ⟨v, a, b, rfl, _⟩ := h
    rfl
  · obtain ⟨v, a, b, rfl, hd, h0, h1, h2, q⟩ := h
    refine ⟨_, pss_cons (ps_asg (pv 0) (pg_tup (by rfl) (pgs_cons (pg_name (i := 1) sc_text.nd rfl (.inl rfl)) (pgs_cons (pg_name (i := 2) sc_text.nd rfl (.inl rfl)) pgs_nil))))
      (pss_cons (ps_if (pt_cmpR op_eq (pv 1) (pv 2) (nomark _)) (pss_one (ps_ret (pe_joined1 (pe_fmt (pv 1))))) pss_nil)
      (pss_one (ps_ret (pe_joined (.cons (pe_fmt (pv 1)) (.cons pe_str (.cons (pe_fmt (pv 2)) .nil))))))), ?_⟩
    obtain ⟨t, xs, rfl, ht, hx⟩ := hd.isT
    cases hx with
    | @cons x1 _ _ _ e1 er =>
    cases er with
    | @cons x2 _ _ _ e2 er2 =>
    cases er2
    cases e1
    cases e2
    refine ⟨_, rfl, t, _, rfl, .inl ht, rfl, _, _, rfl, _, _, rfl, rfl, ?_⟩
    refine ⟨_, rfl, _, rfl, rfl, _, rfl, ?_⟩
    refine ite2 (fun c => ?_) (fun c => ?_)
    · have e : a = b := V.int.inj (of_decide_eq_true c)
      unfold spanText at q
      rw [if_pos e] at q
      exact ⟨_, rfl, .inr ⟨a, rfl, log_ok h0 (by omega), q⟩⟩
    · have e : ¬ a = b := fun z => c (by rw [z]; exact decide_eq_true rfl)
      unfold spanText at q
      rw [if_neg e] at q
      have la := int_len h0 (by omega : a ≤ 4000)
      have lb := int_len (by omega : 0 ≤ b) h2
      have l1 : (Str.empty ++ Str.ofString (toString a)).length ≤ 4 := by rw [str_empty_app]; exact la
      have l2 : ((Str.empty ++ Str.ofString (toString a)) ++ ("-" : Str)).length ≤ 5 := by
        rw [str_len_app]
        exact Nat.add_le_add l1 (by decide : ("-" : Str).length ≤ 1)
      refine ⟨_, rfl, .inr ⟨a, rfl, log_ok h0 (by omega), _, rfl, Nat.le_trans l1 (by decide), _, rfl, Nat.le_trans l2 (by decide), _, rfl, .inr ⟨b, rfl, log_ok (by omega) h2, _, rfl, ?_, ?_⟩⟩⟩
      · rw [str_len_app]
        exact Nat.le_trans (Nat.add_le_add l2 lb) (by decide)
      · rw [str_empty_app]
        exact q
/-! ### those that raise -/
theorem sc_need : FnScope ["stretch"] ["stretch"] (defScope s_need_stretch) := ⟨rfl, rfl, rfl, by decide +kernel, rfl, by decide +kernel, by decide +kernel⟩
theorem g_need : ∀ x ∈ (["is_stretch", "InvalidStretch"] : List Str), (defScope s_need_stretch).names.lookup x = some .globalImplicit := by decide +kernel
/-- it is raised, v kept -/
def up (C : Addr) (v : V) (H : Hp) (E : XK) : Prop := ∀ dd, H dd = none → E (.ref C) (some dd) (upd H dd (.xd [("given", v)]))
def spNeed (CS : Addr) : Sp := fun vs H Q E => ∃ (v : V) (d : PyData), vs = [v] ∧ Dv H v d ∧ (spanB d = true → Q .non H) ∧ (spanB d = false → up CS v H E)
/-- what raising asks of the class -/
structure Rs (K : PySem.W.Frag) (mg : Str → Option Value) (x : Str) (C : Addr) : Prop where
  nw : NewAble K mg x "given" C
  ex : PySem.W.subIn K (.ref C) (.type "BaseException") = some true
  ty : PySem.W.typeIn K (.ref C) = some (.type "type")
theorem ok_need {f CS : Addr} {fd : FuncData} (F : Fun K "need_stretch" "need_stretch" s_need_stretch f fd) (RS : Rs K mg "InvalidStretch" CS)
    (D : CallO P w K mg base CX0 2 "is_stretch" ["value"] spSpan) : FnOk P w K mg base (L2.CX P w) 3 f fd ["stretch"] (spNeed CS) := by
  refine F.okX sc_need (fun vs H Q E h => ?_) (fun cdv A outer s H vs Q E hr h => ?_)
  · obtain ⟨v, d, rfl, _⟩ := h
    rfl
  · obtain ⟨v, d, rfl, hd, q1, q2⟩ := h
    have tk := takes_of (X := cxOf (L2.CX P w) P w K mg base ["stretch"] "need_stretch" (defScope s_need_stretch) f cdv A outer s H E) (E := E) rfl rfl rfl rfl
    refine ⟨_, pss_one (ps_if (pt_not (pt_val (pe_doO D hr (g_need _ (.head _)) pass0 (pa_cons (pv 0) pa_nil))))
      (pss_one (ps_raise rfl tk (pmk_newX RS.nw RS.ex RS.ty hr (g_need _ (.tail _ (.head _))) (pv 0)))) pss_nil), ?_⟩
    refine ⟨_, rfl, v, d, rfl, hd, _, rfl, ?_⟩
    cases e : spanB d with
    | true => exact iteF (q1 e)
    | false => exact iteT ⟨_, rfl, fun dd hdd => q2 e dd hdd⟩
theorem sc_stext : FnScope ["stretch"] ["stretch"] (defScope s_stretch_text) := ⟨rfl, rfl, rfl, by decide +kernel, rfl, by decide +kernel, by decide +kernel⟩
theorem g_stext : ∀ x ∈ (["need_stretch", "text_of_stretch"] : List Str), (defScope s_stretch_text).names.lookup x = some .globalImplicit := by decide +kernel
def spSText (CS : Addr) : Sp := fun vs H Q E => ∃ (v : V) (d : PyData), vs = [v] ∧ Dv H v d ∧ (∀ a b : Int, d = .tuple [.int a, .int b] → 0 ≤ a → a ≤ b → b ≤ 4000 → Q (.str (spanText a b)) H) ∧ (spanB d = false → up CS v H E)
theorem ok_stext {f CS : Addr} {fd : FuncData} (F : Fun K "stretch_text" "stretch_text" s_stretch_text f fd)
    (D1 : CallO P w K mg base (L2.CX P w) 3 "need_stretch" ["stretch"] (spNeed CS)) (D2 : CallO P w K mg base CX0 1 "text_of_stretch" ["stretch"] spText) : FnOk P w K mg base (L2.CX P w) 4 f fd ["stretch"] (spSText CS) := by
  refine F.okX sc_stext (fun vs H Q E h => ?_) (fun cdv A outer s H vs Q E hr h => ?_)
  · obtain ⟨v, d, rfl, _⟩ := h
    rfl
  · obtain ⟨v, d, rfl, hd, q1, q2⟩ := h
    have tk := takes_of (X := cxOf (L2.CX P w) P w K mg base ["stretch"] "stretch_text" (defScope s_stretch_text) f cdv A outer s H E) (E := E) rfl rfl rfl rfl
    refine ⟨_, pss_cons (ps_expr (pe_doO D1 hr (g_stext _ (.head _)) (passes_call tk fun _ _ _ _ h => h) (pa_cons (pv 0) pa_nil)))
      (pss_one (ps_ret (pe_doO D2 (hr.mono (by decide)) (g_stext _ (.tail _ (.head _))) pass0 (pa_cons (pv 0) pa_nil)))), ?_⟩
    refine ⟨_, rfl, v, d, rfl, hd, fun e => ?_, q2⟩
    obtain ⟨a, b, rfl, h0, h1, h2⟩ := span_ends e
    exact ⟨_, rfl, v, a, b, rfl, hd, h0, h1, h2, q1 a b rfl h0 h1 h2⟩
theorem sc_both : FnScope ["stretch", "other_stretch", "low", "high"] ["stretch", "other_stretch"] (defScope s_in_both) := ⟨rfl, rfl, rfl, by decide +kernel, rfl, by decide +kernel, by decide +kernel⟩
theorem g_both : ∀ x ∈ (["need_stretch", "max", "min"] : List Str), (defScope s_in_both).names.lookup x = some .globalImplicit := by decide +kernel
def hiI (a b : Int) : Int := if b > a then b else a
def loI (a b : Int) : Int := if b < a then b else a
def spBoth (CS : Addr) : Sp := fun vs H Q E => ∃ (v1 v2 : V) (d1 d2 : PyData), vs = [v1, v2] ∧ Dv H v1 d1 ∧ Dv H v2 d2 ∧ (spanB d1 = false → up CS v1 H E) ∧ (spanB d1 = true → spanB d2 = false → up CS v2 H E) ∧
  ∀ a1 b1 a2 b2 : Int, d1 = .tuple [.int a1, .int b1] → d2 = .tuple [.int a2, .int b2] → spanB d1 = true → spanB d2 = true →
    (hiI a1 a2 > loI b1 b2 → Q .non H) ∧ (¬ hiI a1 a2 > loI b1 b2 → ∀ p, H p = none → Q (.ref p) (upd H p (.tup [.int (hiI a1 a2), .int (loI b1 b2)])))
theorem ok_both {f CS : Addr} {fd : FuncData} (F : Fun K "in_both" "in_both" s_in_both f fd) (h1 : mg "max" = none) (h2 : mg "min" = none)
    (D1 : CallO P w K mg base (L2.CX P w) 3 "need_stretch" ["stretch"] (spNeed CS)) : FnOk P w K mg base (L2.CX P w) 4 f fd ["stretch", "other_stretch"] (spBoth CS) := by
  refine F.okX sc_both (fun vs H Q E h => ?_) (fun cdv A outer s H vs Q E hr h => ?_)
  · obtain ⟨v1, v2, d1, d2, rfl, _⟩ := h
    rfl
  · obtain ⟨v1, v2, d1, d2, rfl, hd1, hd2, q1, q2, q3⟩ := h
    have tk := takes_of (X := cxOf (L2.CX P w) P w K mg base ["stretch", "other_stretch", "low", "high"] "in_both" (defScope s_in_both) f cdv A outer s H E) (E := E) rfl rfl rfl rfl
    refine ⟨_, pss_cons (ps_expr (pe_doO D1 hr (g_both _ (.head _)) (passes_call tk fun _ _ _ _ h => h) (pa_cons (pv 0) pa_nil)))
      (pss_cons (ps_expr (pe_doO D1 hr (g_both _ (.head _)) (passes_call tk fun _ _ _ _ h => h) (pa_cons (pv 1) pa_nil)))
      (pss_cons (ps_set (i := 2) sc_both.nd rfl (.inl rfl) (pe_callB (call_max2 rfl) (g_both _ (.tail _ (.head _))) h1 (by decide +kernel) (pa_cons (pe_ix ix_tup (pv 0) pe_int (fun _ _ => rfl)) (pa_cons (pe_ix ix_tup (pv 1) pe_int (fun _ _ => rfl)) pa_nil))))
      (pss_cons (ps_set (i := 3) sc_both.nd rfl (.inl rfl) (pe_callB (call_min2 rfl) (g_both _ (.tail _ (.tail _ (.head _)))) h2 (by decide +kernel) (pa_cons (pe_ix ix_tup (pv 0) pe_int (fun _ _ => rfl)) (pa_cons (pe_ix ix_tup (pv 1) pe_int (fun _ _ => rfl)) pa_nil))))
      (pss_cons (ps_if (pt_cmpR op_gt (pv 2) (pv 3) (nomark _)) (pss_one (ps_ret pe_non)) pss_nil)
      (pss_one (ps_ret (pe_tup (pa_cons (pv 2) (pa_cons (pv 3) pa_nil))))))))), ?_⟩
    refine ⟨_, rfl, v1, d1, rfl, hd1, fun e1 => ?_, q1⟩
    refine ⟨_, rfl, v2, d2, rfl, hd2, fun e2 => ?_, q2 e1⟩
    obtain ⟨a1, b1, rfl, _⟩ := span_ends e1
    obtain ⟨a2, b2, rfl, _⟩ := span_ends e2
    obtain ⟨q4, q5⟩ := q3 a1 b1 a2 b2 rfl rfl e1 e2
    obtain ⟨t1, xs1, rfl, ht1, hx1⟩ := hd1.isT
    obtain ⟨t2, xs2, rfl, ht2, hx2⟩ := hd2.isT
    cases hx1 with
    | cons x1 r1 =>
    cases r1 with
    | cons y1 r1 =>
    cases r1
    cases x1
    cases y1
    cases hx2 with
    | cons x2 r2 =>
    cases r2 with
    | cons y2 r2 =>
    cases r2
    cases x2
    cases y2
    refine ⟨_, rfl, t1, _, 0, _, rfl, rfl, .inl ht1, rfl, _, rfl, t2, _, 0, _, rfl, rfl, .inl ht2, rfl, _, _, rfl, ?_⟩
    refine ⟨_, rfl, t1, _, 1, _, rfl, rfl, .inl ht1, rfl, _, rfl, t2, _, 1, _, rfl, rfl, .inl ht2, rfl, _, _, rfl, ?_⟩
    refine ⟨_, rfl, _, rfl, _, _, rfl, rfl, _, rfl, ?_⟩
    refine ite2 (fun c => q4 (of_decide_eq_true c)) (fun c => ?_)
    exact ⟨_, rfl, _, rfl, ⟨by show 2 ≤ sizeLine; decide, fun p hp => q5 (fun z => c (decide_eq_true z)) p hp⟩⟩
end
end K02
/-! Texts of numbers and of stretches: written, cut, read back. -/
namespace Tc
open PySem TL
abbrev val (l : List Nat) : Nat := NumText.digitsVal l
/-- the signs of a number as it is written -/
def canB (l : List Nat) : Bool := l.all (fun c => decide (48 ≤ c) && decide (c ≤ 57)) && (match l with
  | [] => false
  | c :: r => !(c == 48) || r.isEmpty)
theorem can_dig {l : List Nat} (h : canB l = true) : NumText.AllDigits l := fun c hc => by
  have z := List.all_eq_true.mp (Bool.and_eq_true_iff.mp h).1 c hc
  obtain ⟨h1, h2⟩ := Bool.and_eq_true_iff.mp z
  exact ⟨of_decide_eq_true h1, of_decide_eq_true h2⟩
theorem chars_back : ∀ {l : List Nat}, NumText.AllDigits l → (l.map Char.ofNat).map Char.toNat = l
  | [], _ => rfl
  | c :: r, h => by
    have hc := h c (.head _)
    have e : (Char.ofNat c).toNat = c := by
      have t : ∀ d : Nat, d < 10 → (Char.ofNat (48 + d)).toNat = 48 + d := by decide
      have z := t (c - 48) (by omega)
      rw [show 48 + (c - 48) = c by omega] at z
      exact z
    rw [List.map_cons, List.map_cons, e, chars_back fun d hd => h d (.tail _ hd)]
theorem can_num {l : List Nat} (h : canB l = true) : numL (val l) = l := by
  have hd := can_dig h
  cases l with
  | nil => exact absurd (Bool.and_eq_true_iff.mp h).2 (by decide)
  | cons c r =>
    have h2 : (!(c == 48) || r.isEmpty) = true := (Bool.and_eq_true_iff.mp h).2
    have hc := hd c (.head _)
    have z := NumText.toDigits_digitsVal r.length (c :: r) rfl hd (by
      rcases Bool.or_eq_true_iff.mp h2 with z | z
      · have : ¬ c = 48 := by simpa using z
        exact .inr ⟨c, r, rfl, by omega⟩
      · have : r = [] := by simpa using z
        exact .inl (by rw [this] <;> rfl))
    show (Nat.toDigits 10 (NumText.digitsVal (c :: r))).map Char.toNat = _
    rw [z]
    exact chars_back hd
theorem num_head : ∀ n : Nat, ∀ r, numL n = 48 :: r → r = [] := by
  intro n
  induction n using Nat.strongRecOn with
  | _ n ih =>
    intro r e
    by_cases h : n < 10
    · rw [numL_lt h] at e
      exact (List.cons.inj e).2.symm
    · rw [numL_step (by omega)] at e
      cases q : numL (n / 10) with
      | nil => exact absurd q (numL_ne _)
      | cons c r2 =>
        rw [q] at e
        have ec : c = 48 := (List.cons.inj e).1
        subst ec
        have e2 := ih (n / 10) (by omega) r2 q
        subst e2
        have v := numL_val (n / 10)
        rw [q] at v
        have v0 : NumText.digitsVal [48] = 0 := by decide
        rw [v0] at v
        omega
theorem num_can (n : Nat) : canB (numL n) = true := by
  refine Bool.and_eq_true_iff.mpr ⟨List.all_eq_true.mpr fun c hc => ?_, ?_⟩
  · obtain ⟨h1, h2⟩ := numL_digits n c hc
    rw [decide_eq_true h1, decide_eq_true h2] <;> rfl
  · cases q : numL n with
    | nil => exact absurd q (numL_ne _)
    | cons c r =>
      show (!(c == 48) || r.isEmpty) = true
      by_cases e : c = 48
      · subst e
        rw [num_head n r q]
        rfl
      · have : (c == 48) = false := by simpa using e
        rw [this] <;> rfl
/-! ### cut at the dashes -/
theorem pre_dash (c : Nat) (r : List Nat) : pre [45] (c :: r) = (c == 45) := by
  show ((c :: r).take 1 == [45]) = _
  simp
theorem spl_free : ∀ (l acc : List Nat), 45 ∉ acc → ∀ p ∈ spl [45] 0 acc l, 45 ∉ p
  | [], acc, h, p, hp => by
    rw [spl_nil] at hp
    rw [List.mem_singleton.mp hp]
    exact h
  | c :: r, acc, h, p, hp => by
    by_cases e : c = 45
    · rw [spl_hit (by rw [pre_dash, e] <;> rfl)] at hp
      rcases List.mem_cons.mp hp with z | z
      · rw [z]
        exact h
      · exact spl_free r [] (by simp) p z
    · rw [spl_miss (by rw [pre_dash]; simpa using e)] at hp
      refine spl_free r (acc ++ [c]) (fun z => ?_) p hp
      rcases List.mem_append.mp z with z | z
      · exact h z
      · exact e (List.mem_singleton.mp z).symm
theorem spl_ne : ∀ (l acc : List Nat), spl [45] 0 acc l ≠ []
  | [], acc => by rw [spl_nil]; simp
  | c :: r, acc => by
    by_cases e : c = 45
    · rw [spl_hit (by rw [pre_dash, e] <;> rfl)]
      simp
    · rw [spl_miss (by rw [pre_dash]; simpa using e)]
      exact spl_ne r _
theorem join_cons {S p : List Nat} {ps : List (List Nat)} (h : ps ≠ []) : joinL S (p :: ps) = p ++ (S ++ joinL S ps) := by
  cases ps with
  | nil => exact absurd rfl h
  | cons q r => rfl
theorem spl_back : ∀ (l acc : List Nat), joinL [45] (spl [45] 0 acc l) = acc ++ l
  | [], acc => by
    rw [spl_nil, List.append_nil]
    rfl
  | c :: r, acc => by
    by_cases e : c = 45
    · subst e
      rw [spl_hit (by rw [pre_dash] <;> rfl)]
      show joinL [45] (acc :: spl [45] 0 [] r) = acc ++ 45 :: r
      rw [join_cons (spl_ne _ _), spl_back r []]
      rfl
    · rw [spl_miss (by rw [pre_dash]; simpa using e), spl_back r (acc ++ [c]), List.append_assoc]
      rfl
/-- a stretch's signs -/
def spanL (a b : Nat) : List Nat := if a = b then numL a else numL a ++ (45 :: numL b)
/-- as the law reads the parts -/
def toldP : List (List Nat) → Option (Nat × Nat)
  | [p] => if canB p = true ∧ val p ≤ 4000 then some (val p, val p) else none
  | [p, q] => if canB p = true ∧ canB q = true ∧ val p < val q ∧ val q ≤ 4000 then some (val p, val q) else none
  | _ => none
/-- as the program does: its first part, its last one, and the text itself -/
def readP (p q l : List Nat) : Option (Nat × Nat) := if canB p = true ∧ canB q = true ∧ val p ≤ val q ∧ val q ≤ 4000 ∧ spanL (val p) (val q) = l then some (val p, val q) else none
theorem spl_span (a b : Nat) : spl [45] 0 [] (spanL a b) = if a = b then [numL a] else [numL a, numL b] := by
  unfold spanL
  have fr : ∀ n, 45 ∉ numL n := fun n => numL_free (.inl (by decide))
  by_cases e : a = b
  · rw [if_pos e, if_pos e]
    exact spl_join (s := 45) (S := []) (parts := [numL a]) (by simp) (by simpa using fr a)
  · rw [if_neg e, if_neg e]
    refine spl_join (s := 45) (S := []) (parts := [numL a, numL b]) (by simp) fun p hp => ?_
    rcases List.mem_cons.mp hp with z | z
    · rw [z]; exact fr a
    · rw [List.mem_singleton.mp z]; exact fr b
/-- both read the same -/
theorem read_told (l : List Nat) : ∀ ps, spl [45] 0 [] l = ps → readP (ps.headD []) (ps.getLastD []) l = toldP ps := by
  intro ps e
  have back := spl_back l []
  rw [e, List.nil_append] at back
  have fr := spl_free l [] (by simp)
  rw [e] at fr
  -- what the program takes is a stretch's text
  have cut : ∀ {p q : List Nat}, spanL (val p) (val q) = l → ps = if val p = val q then [numL (val p)] else [numL (val p), numL (val q)] := fun h => by
    rw [← e, ← h, spl_span]
  match ps with
  | [] => exact absurd e (spl_ne _ _)
  | [p] =>
    have hl : p = l := back
    show (if canB p = true ∧ canB p = true ∧ val p ≤ val p ∧ val p ≤ 4000 ∧ spanL (val p) (val p) = l then some (val p, val p) else none) = (if canB p = true ∧ val p ≤ 4000 then some (val p, val p) else none)
    by_cases h : canB p = true ∧ val p ≤ 4000
    · have key : spanL (val p) (val p) = l := by
        unfold spanL
        rw [if_pos rfl, can_num h.1]
        exact hl
      rw [if_pos h, if_pos ⟨h.1, h.1, Nat.le_refl _, h.2, key⟩]
    · rw [if_neg h, if_neg fun z => h ⟨z.1, z.2.2.2.1⟩]
  | [p, q] =>
    have hl : p ++ ([45] ++ q) = l := back
    show (if canB p = true ∧ canB q = true ∧ val p ≤ val q ∧ val q ≤ 4000 ∧ spanL (val p) (val q) = l then some (val p, val q) else none) = (if canB p = true ∧ canB q = true ∧ val p < val q ∧ val q ≤ 4000 then some (val p, val q) else none)
    by_cases h : canB p = true ∧ canB q = true ∧ val p < val q ∧ val q ≤ 4000
    · have key : spanL (val p) (val q) = l := by
        unfold spanL
        rw [if_neg (Nat.ne_of_lt h.2.2.1), can_num h.1, can_num h.2.1]
        exact hl
      rw [if_pos h, if_pos ⟨h.1, h.2.1, Nat.le_of_lt h.2.2.1, h.2.2.2, key⟩]
    · rw [if_neg h, if_neg fun z => h ⟨z.1, z.2.1, ?_, z.2.2.2.1⟩]
      have c := cut z.2.2.2.2
      by_cases e2 : val p = val q
      · rw [if_pos e2] at c
        exact absurd (congrArg List.length c) (by simp)
      · have := z.2.2.1
        omega
  | p :: q :: r :: s =>
    show readP p _ l = none
    unfold readP
    rw [if_neg fun z => ?_]
    have c := cut z.2.2.2.2
    by_cases e2 : val p = val ((p :: q :: r :: s).getLastD [])
    · rw [if_pos e2] at c
      exact absurd (congrArg List.length c) (by simp)
    · rw [if_neg e2] at c
      exact absurd (congrArg List.length c) (by simp)
end Tc
namespace Tc
open PySem PySem.Spec PyProof.Rows L2
section
variable {X : Cx}
/-- a short text, so many times -/
theorem op_mul_str : OpR X (binaryOp .Mult) (fun x y H Q => ∃ (i : Str) (k : Int), x = .str i ∧ y = .int k ∧ i.length ≤ 16 ∧ -(2 ^ 63) ≤ k ∧ k ≤ 1048576 ∧ Q (.str (Txt.mul i k)) H) := by
  intro pins s σ H x y v u Q I rx ry h
  obtain ⟨i, k, rfl, rfl, h1, h2, h3, q⟩ := h
  obtain ⟨t, rfl⟩ := rx
  obtain ⟨t', rfl⟩ := ry
  exact PySem.W.KXi.mul rfl h1 h2 h3 fun t' k' _ _ => ⟨.str (Txt.mul i k), H, I.tok _, ⟨_, rfl⟩, q⟩
variable {CX : CXT} {k : Nat} {ps : List Str} {sp : Sp} {E : XK} {x : Str} {p pos : Pos}
/-- a def of no arguments, by its name -/
theorem pe_doO0 (F : CallO X.prog X.w X.K X.mg X.base CX k x ps sp) (hr : Room k X.A) (hg : Gl X x) (hx : Passes CX X E)
    (hdb : (x == ("__debug__" : Str)) = false := by decide) : PE X (.Call (.Name x p) [] [] pos) (tCall sp [] E tNil) := by
  obtain ⟨f, fd, G, hm, hk, hb⟩ := F.ex
  exact pe_call0 G hr hg hm hk hb .nil hx hdb
end
end Tc
namespace K02
open PySem PySem.Spec PyProof.Rows L2 Tc Evl TL
/-- what read_number makes of a word -/
def numV (l : List Nat) : V := if canB l = true then .int ((val l : Nat) : Int) else .non
theorem ascii_digit : ∀ c : Fin 128, Unicode.isDigit c.val = (decide (48 ≤ c.val) && decide (c.val ≤ 57)) := by decide +kernel
theorem digits_eq (x : Str) : (Txt.isascii x && Txt.isdigit x) = (!(tl x).isEmpty && (tl x).all fun c => decide (48 ≤ c) && decide (c ≤ 57)) := by
  have e1 : Txt.isascii x = (tl x).all fun c => decide (c < 128) := by
    show x.cps.all _ = _
    rw [← Array.all_toList]
  have e2 : Txt.isdigit x = (decide ((tl x).length > 0) && (tl x).all Unicode.isDigit) := by
    show (decide (x.length > 0) && x.cps.all _) = _
    rw [← Array.all_toList, len_tl]
  rw [e1, e2]
  generalize tl x = l
  cases l with
  | nil => rfl
  | cons c r =>
    have h0 : decide ((c :: r).length > 0) = true := decide_eq_true (Nat.succ_pos _)
    rw [h0, Bool.true_and]
    show _ = (true && _)
    rw [Bool.true_and]
    generalize c :: r = l
    induction l with
    | nil => rfl
    | cons d s ih =>
      rw [List.all_cons, List.all_cons, List.all_cons]
      by_cases h : d < 128
      · have z := ascii_digit ⟨d, h⟩
        rw [decide_eq_true h, Bool.true_and, ← ih, show Unicode.isDigit d = _ from z]
        cases (s.all fun c => decide (c < 128)) <;> cases (decide (48 ≤ d) && decide (d ≤ 57)) <;> rfl
      · have e : (decide (48 ≤ d) && decide (d ≤ 57)) = false := by
          rw [decide_eq_false (by omega : ¬ d ≤ 57), Bool.and_false]
        rw [decide_eq_false h, e] <;> rfl
section
variable {P : Program} {w : World} {K : PySem.W.Frag} {mg : Str → Option Value} {base : Heap}
theorem sc_unit : FnScope [] [] (defScope s_unit) := ⟨rfl, rfl, rfl, by decide +kernel, rfl, by decide +kernel, by decide +kernel⟩
theorem g_unit : ∀ x ∈ (["int", "_DIGITS_AT_ONCE"] : List Str), (defScope s_unit).names.lookup x = some .globalImplicit := by decide +kernel
def spUnit : Sp := fun vs H Q _ => vs = [] ∧ Q (.int (10 ^ 100)) H
theorem unit_txt : PySem.intText? (("1" : Str) ++ Txt.mul ("0" : Str) 100) = some (10 ^ 100) ∧ (("1" : Str) ++ Txt.mul ("0" : Str) 100).length = 101 ∧ (Txt.mul ("0" : Str) 100).length = 100 := by decide +kernel
theorem ok_unit {f : Addr} {fd : FuncData} (F : Fun K "_unit" "_unit" s_unit f fd) (B : Bl mg) (hn : ∃ t, mg "_DIGITS_AT_ONCE" = some (.int 100 t)) :
    FnOk P w K mg base CX0 1 f fd [] spUnit := by
  refine F.ok sc_unit (fun vs H Q E h => ?_) (fun cdv A outer s H vs Q E hr h => ?_)
  · obtain ⟨rfl, _⟩ := h
    rfl
  · obtain ⟨rfl, q⟩ := h
    refine ⟨_, pss_one (ps_ret (pe_callTy call_int_str (g_unit _ (.head _)) B.int (by decide +kernel) (pa_cons (pe_op op_add_str pe_str (pe_op op_mul_str pe_str (pe_num (x := "_DIGITS_AT_ONCE") hn (g_unit _ (.tail _ (.head _)))))) pa_nil))), ?_⟩
    refine ⟨_, _, rfl, rfl, by decide, by decide, by decide, _, _, rfl, rfl, ?_, _, _, rfl, unit_txt.1, ?_, q⟩
    · rw [unit_txt.2.2] <;> decide
    · rw [unit_txt.2.1] <;> decide
theorem sc_nw : FnScope ["digits", "unit", "head", "number", "at"] ["digits"] (defScope s_number_with) := ⟨rfl, rfl, rfl, by decide +kernel, rfl, by decide +kernel, by decide +kernel⟩
theorem g_nw : ∀ x ∈ (["_unit", "len", "_DIGITS_AT_ONCE", "int", "range"] : List Str), (defScope s_number_with).names.lookup x = some .globalImplicit := by decide +kernel
def spNw : Sp := fun vs H Q _ => ∃ t : Str, vs = [.str t] ∧ NumText.AllDigits (tl t) ∧ t.length ≤ 99 ∧ Q (.int ((val (tl t) : Nat) : Int)) H
theorem cut_all (t : Str) : cutS t none (some (t.length : Int)) = t := by
  refine ext_tl ?_
  show ((t.cps.toList.drop (HT.sIx t.length 0 none)).take (HT.sIx t.length t.length (some (t.length : Int)) - HT.sIx t.length 0 none)).toArray.toList = t.cps.toList
  rw [HT.sIx_none, HT.sIx_nat, Nat.min_self]
  have : t.cps.toList.length = t.length := Array.length_toList
  rw [List.toList_toArray] <;> exact List.take_of_length_le (by rw [List.drop_zero]; omega)
theorem zero_app (t : Str) : tl (("0" : Str) ++ t) = 48 :: tl t := by
  show (((("0" : Str).cps ++ t.cps)).toList : List Nat) = _
  rw [Array.toList_append] <;> rfl
theorem len0 (t : Str) : (("0" : Str) ++ t).length = 1 + t.length := by
  have a := congrArg List.length (zero_app t)
  have b : (tl (("0" : Str) ++ t)).length = (("0" : Str) ++ t).length := Array.length_toList
  have c : (tl t).length = t.length := Array.length_toList
  rw [List.length_cons] at a
  omega
theorem val_zero (l : List Nat) : val (48 :: l) = val l := by
  show List.foldl _ _ _ = List.foldl _ _ _
  rfl
theorem rg_none {i : Int} (h0 : 0 ≤ i) (h1 : i < 2 ^ 20) : RgC i i 100 0 := by
  have e : Builtin.Range.rangeSize i i 100 = 0 := by
    unfold Builtin.Range.rangeSize
    rw [if_pos (by decide), if_neg (by omega)]
  refine ⟨by decide, by decide, ?_, e⟩
  unfold Builtin.Range.small
  rw [e]
  simp only [Builtin.Range.rangeFitsLong, Bool.and_eq_true, Bool.or_eq_true, decide_eq_true_eq, beq_iff_eq, show (100 : Int) > 0 by decide, if_true]
  omega
theorem ok_nw {f : Addr} {fd : FuncData} (F : Fun K "_number_with" "_number_with" s_number_with f fd) (B : Bl mg) (hn : ∃ t, mg "_DIGITS_AT_ONCE" = some (.int 100 t))
    (D : CallO P w K mg base CX0 1 "_unit" [] spUnit) : FnOk P w K mg base CX0 2 f fd ["digits"] spNw := by
  refine F.ok sc_nw (fun vs H Q E h => ?_) (fun cdv A outer s H vs Q E hr h => ?_)
  · obtain ⟨t, rfl, _⟩ := h
    rfl
  · obtain ⟨t, rfl, ad, hl, q⟩ := h
    refine ⟨_, pss_cons (ps_set (i := 1) sc_nw.nd rfl (.inl rfl) (pe_doO0 D hr (g_nw _ (.head _)) pass0))
      (pss_cons (ps_set (i := 2) sc_nw.nd rfl (.inl rfl) (pe_op op_mod (pe_callB call_len (g_nw _ (.tail _ (.head _))) B.len (by decide +kernel) (pa_cons (pv 0) pa_nil)) (pe_num (x := "_DIGITS_AT_ONCE") hn (g_nw _ (.tail _ (.tail _ (.head _)))))))
      (pss_cons (ps_set (i := 3) sc_nw.nd rfl (.inl rfl) (pe_callTy call_int_str (g_nw _ (.tail _ (.tail _ (.tail _ (.head _))))) B.int (by decide +kernel) (pa_cons (pe_op op_add_str pe_str (pe_slice sl_str (pv 0) po_none (po_some (pv 2)))) pa_nil)))
      (pss_cons (ps_for PassesOwn.never rfl (pi_range3 (g_nw _ (.tail _ (.tail _ (.tail _ (.tail _ (.head _)))))) B.range (pa_cons (pv 2) (pa_cons (pe_callB call_len (g_nw _ (.tail _ (.head _))) B.len (by decide +kernel) (pa_cons (pv 0) pa_nil)) (pa_cons (pe_num (x := "_DIGITS_AT_ONCE") hn (g_nw _ (.tail _ (.tail _ (.head _))))) pa_nil)))) (pg_name (i := 4) sc_nw.nd rfl (.inl rfl))
        (pss_one (ps_set (i := 3) sc_nw.nd rfl (.inl rfl) (pe_op op_add (pe_op op_mulW (pv 3) (pv 1)) (pe_callTy call_int_str (g_nw _ (.tail _ (.tail _ (.tail _ (.head _))))) B.int (by decide +kernel) (pa_cons (pe_slice sl_str (pv 0) (po_some (pv 4)) (po_some (pe_op op_add (pv 4) (pe_num (x := "_DIGITS_AT_ONCE") hn (g_nw _ (.tail _ (.tail _ (.head _)))))))) pa_nil))))))
      (pss_one (ps_ret (pv 3)))))), ?_⟩
    have hz : t.length ≤ sizeLine := Nat.le_trans hl (by decide)
    have em : (t.length : Int) % 100 = t.length := Int.emod_eq_of_lt (by omega) (by omega)
    refine ⟨rfl, ?_⟩
    refine ⟨_, rfl, _, t.length, rfl, ⟨hz, rfl⟩, _, _, rfl, rfl, by show (0 : Int) < 100; decide, ?_⟩
    dsimp only
    rw [em]
    refine ⟨_, rfl, _, rfl, _, rfl, t, rfl, hz, ?_⟩
    rw [cut_all]
    refine ⟨_, _, rfl, rfl, ?_, _, ((val (tl t) : Nat) : Int), rfl, ?_, ?_, ?_⟩
    · exact Nat.le_trans (show (1 : Nat) + t.length ≤ 100 by omega) (by decide)
    · have z := intText_digits (x := ("0" : Str) ++ t) (by
        show NumText.AllDigits (tl (("0" : Str) ++ t))
        rw [zero_app]
        exact fun d hd => by
          rcases List.mem_cons.mp hd with rfl | hd
          · exact ⟨by decide, by decide⟩
          · exact ad d hd) (by show tl (("0" : Str) ++ t) ≠ []; rw [zero_app]; simp) (by
        have : (("0" : Str) ++ t).length = 1 + t.length := len0 t
        omega)
      rw [z]
      show some (((val (tl (("0" : Str) ++ t)) : Nat)) : Int) = _
      rw [zero_app, val_zero]
    · have : (("0" : Str) ++ t).length = 1 + t.length := len0 t
      omega
    refine ⟨_, rfl, _, rfl, _, t.length, rfl, ⟨hz, rfl⟩, _, _, _, 0, rfl, rg_none (by omega) (by omega), ?_⟩
    refine for_rangeC (fun _ σ' H' => H' = H ∧ σ' = [some (.str t), some (.int (10 ^ 100)), some (.int (t.length : Int)), some (.int ((val (tl t) : Nat) : Int)), none]) ⟨rfl, rfl⟩ (fun i σ' H' hi => absurd hi (by omega)) ?_
    rintro _ _ ⟨rfl, rfl⟩
    exact ⟨_, rfl, q⟩
theorem sc_rn : FnScope ["text"] ["text"] (defScope s_read_number) := ⟨rfl, rfl, rfl, by decide +kernel, rfl, by decide +kernel, by decide +kernel⟩
theorem g_rn : ∀ x ∈ (["_number_with"] : List Str), (defScope s_read_number).names.lookup x = some .globalImplicit := by decide +kernel
def spRn : Sp := fun vs H Q _ => ∃ t : Str, vs = [.str t] ∧ t.length ≤ 99 ∧ Q (numV (tl t)) H
def rIntS : List V → Hp → VK → Prop := fun xs H Q => ∃ a n, xs = [.str a] ∧ PySem.intText? a = some n ∧ a.length ≤ 640 ∧ Q (.int n) H
theorem zero_tl (t : Str) : t = "0" ↔ tl t = [48] := ⟨fun e => by rw [e] <;> rfl, fun e => ext_tl (by rw [e] <;> rfl)⟩
theorem ok_rn {f : Addr} {fd : FuncData} (F : Fun K "read_number" "read_number" s_read_number f fd) (DN : CallO P w K mg base CX0 2 "_number_with" ["digits"] spNw) :
    FnOk P w K mg base CX0 3 f fd ["text"] spRn := by
  refine F.ok sc_rn (fun vs H Q E h => ?_) (fun cdv A outer s H vs Q E hr h => ?_)
  · obtain ⟨t, rfl, _⟩ := h
    rfl
  · obtain ⟨t, rfl, hl, q⟩ := h
    refine ⟨_, pss_cons (ps_if (pt_not (PW.pt (pw_and (pt_val (pe_m0 PySem.F.slot_str_isascii PySem.F.type_str_isascii mt_isascii (pv 0))) (pw_and1 (pt_val (pe_m0 PySem.F.slot_str_isdigit PySem.F.type_str_isdigit mt_isdigit (pv 0))))))) (pss_one (ps_ret pe_non)) pss_nil)
      (pss_cons (ps_if (PW.pt (pw_and (pt_cmpR op_eq (pe_ix ix_str (pv 0) pe_int (fun _ _ => rfl)) pe_str (nomark _)) (pw_and1 (pt_cmpR op_ne (pv 0) pe_str (nomark _))))) (pss_one (ps_ret pe_non)) pss_nil)
      (pss_one (ps_ret (pe_doO DN hr (g_rn _ (.head _)) pass0 (pa_cons (pv 0) pa_nil))))), ?_⟩
    have dg := digits_eq t
    have bad : (!(tl t).isEmpty && (tl t).all fun c => decide (48 ≤ c) && decide (c ≤ 57)) = false → Q .non H := fun e => by
      have z : canB (tl t) = false := by
        unfold canB
        cases hl : tl t with
        | nil => rfl
        | cons c r =>
          rw [hl] at e
          have e : ((c :: r).all fun c => decide (48 ≤ c) && decide (c ≤ 57)) = false := e
          rw [e] <;> rfl
      unfold numV at q
      rw [if_neg (by rw [z]; decide)] at q
      exact q
    refine ⟨_, rfl, ⟨_, rfl⟩, t, rfl, rfl, trivial, _, rfl, ?_⟩
    cases hA : Txt.isascii t with
    | false =>
      rw [hA] at dg
      exact iteF (iteT (bad dg.symm))
    | true =>
      refine iteT ⟨_, rfl, ⟨_, rfl⟩, t, rfl, rfl, trivial, _, rfl, ?_⟩
      cases hD : Txt.isdigit t with
      | false =>
        rw [hA, hD] at dg
        exact iteT (bad dg.symm)
      | true =>
        rw [hA, hD] at dg
        have dg : true = (!(tl t).isEmpty && (tl t).all fun c => decide (48 ≤ c) && decide (c ≤ 57)) := dg
        have hz : t.length ≤ sizeLine := Nat.le_trans hl (by decide)
        refine iteF ?_
        obtain ⟨n1, n2⟩ := Bool.and_eq_true_iff.mp dg.symm
        cases hc : tl t with
        | nil =>
          rw [hc] at n1
          exact absurd n1 (by decide)
        | cons c r =>
        have at0 : atI (t.cps.toList) 0 = some c := by
          show atI (tl t) 0 = _
          rw [hc]
          exact atI_nat (xs := c :: r) (j := 0) rfl
        have ad : NumText.AllDigits (tl t) := fun d hd => by
          obtain ⟨h1, h2⟩ := Bool.and_eq_true_iff.mp (List.all_eq_true.mp n2 d hd)
          exact ⟨of_decide_eq_true h1, of_decide_eq_true h2⟩
        have cb : canB (tl t) = (!(c == 48) || r.isEmpty) := by
          unfold canB
          rw [n2, hc] <;> rfl
        have fin : canB (tl t) = true → spNw [.str t] H Q (fun _ _ _ => False) := fun e => by
          refine ⟨t, rfl, ad, hl, ?_⟩
          unfold numV at q
          rw [if_pos e] at q
          exact q
        have no : canB (tl t) = false → Q .non H := fun e => by
          unfold numV at q
          rw [if_neg (by rw [e]; decide)] at q
          exact q
        refine ⟨_, rfl, t, 0, c, rfl, rfl, hz, at0, rfl, _, rfl, ?_⟩
        refine ite2 (fun e0 => ?_) (fun e0 => ?_)
        · have e48 : c = 48 := by
            have z := V.str.inj (of_decide_eq_true e0)
            have z2 := congrArg tl z
            exact (List.cons.inj z2).1
          refine ⟨_, rfl, rfl, _, rfl, ?_⟩
          refine ite2 (fun e1 => ?_) (fun e1 => ?_)
          · refine no ?_
            rw [cb, e48]
            cases r with
            | nil =>
              have : t = "0" := (zero_tl t).mpr (by rw [hc, e48])
              rw [this] at e1
              simp at e1
            | cons _ _ => rfl
          · have : t = "0" := by
              by_cases z : t = "0"
              · exact z
              · exact absurd (by simp [z]) e1
            refine ⟨_, rfl, fin ?_⟩
            rw [this]
            decide
        · refine ⟨_, rfl, fin ?_⟩
          rw [cb]
          have : ¬ c = 48 := fun z => e0 (by rw [z]; exact decide_eq_true rfl)
          simp [this]
end
end K02
namespace K02
open PySem PySem.Spec PyProof.Rows L2 Tc Evl TL
theorem part_len : ∀ (ps : List (List Nat)) (p : List Nat), p ∈ ps → p.length ≤ (joinL [45] ps).length
  | [q], p, h => by
    rw [List.mem_singleton.mp h]
    exact Nat.le_refl _
  | q :: r :: s, p, h => by
    rw [join_cons (List.cons_ne_nil r s), List.length_append, List.length_append]
    rcases List.mem_cons.mp h with z | z
    · rw [z]
      omega
    · have := part_len (r :: s) p z
      omega
/-- the parts of a text -/
def parts (t : Str) : List (List Nat) := spl [45] 0 [] (tl t)
theorem parts_eq (t : Str) : (Txt.split t "-").map tl = parts t := split_spl t "-" (by decide +kernel) (kind_ok (by decide +kernel))
theorem parts_len {t : Str} {p : List Nat} (h : p ∈ parts t) : p.length ≤ t.length := by
  have z := part_len _ p h
  rw [show joinL [45] (parts t) = tl t from spl_back (tl t) []] at z
  rw [len_tl]
  exact z
/-- the data that a part gives -/
def numD (l : List Nat) : PyData := if canB l = true then .int ((val l : Nat) : Int) else .none
theorem num_dv {H : Hp} (l : List Nat) : Dv H (numV l) (numD l) := by
  unfold numV numD
  by_cases h : canB l = true
  · rw [if_pos h, if_pos h]
    exact .int _
  · rw [if_neg h, if_neg h]
    exact .non
theorem span_num (p q : List Nat) : spanB (.tuple [numD p, numD q]) = true ↔ canB p = true ∧ canB q = true ∧ val p ≤ val q ∧ val q ≤ 4000 := by
  unfold numD
  by_cases h1 : canB p = true
  · by_cases h2 : canB q = true
    · rw [if_pos h1, if_pos h2]
      show (decide ((0 : Int) ≤ (val p : Int)) && (decide ((val p : Int) ≤ (val q : Int)) && decide ((val q : Int) ≤ 4000))) = true ↔ _
      simp only [Bool.and_eq_true, decide_eq_true_eq, h1, h2, true_and]
      omega
    · rw [if_pos h1, if_neg h2]
      exact ⟨fun z => (by cases z), fun z => absurd z.2.1 h2⟩
  · rw [if_neg h1]
    refine ⟨fun z => ?_, fun z => absurd z.1 h1⟩
    by_cases h2 : canB q = true
    · rw [if_pos h2] at z
      cases z
    · rw [if_neg h2] at z
      cases z
theorem tl_span (a b : Nat) : tl (spanText (a : Int) (b : Int)) = spanL a b := by
  unfold spanText spanL
  by_cases e : a = b
  · rw [if_pos (by rw [e]), if_pos e]
    exact tl_num a
  · rw [if_neg (by omega), if_neg e, tl_append, tl_append]
    show (tl (Str.ofString (toString ((a : Nat) : Int))) ++ tl ("-" : Str)) ++ tl (Str.ofString (toString ((b : Nat) : Int))) = _
    rw [tl_num, tl_num, List.append_assoc]
    rfl
theorem given_all {n : Nat} {v : Nat → V} : given n (fun _ => true) v = (List.range n).map v := by
  unfold given
  rw [List.filter_eq_self.mpr (by simp)]
theorem range_get {α β : Type} (f : α → β) (d : α) : ∀ l : List α, (List.range l.length).map (fun i => f (l.getD i d)) = l.map f := by
  intro l
  refine List.ext_getElem (by simp) fun i h1 h2 => ?_
  have h3 : i < l.length := by simpa using h2
  simp [h3]
theorem at_first {l : List (List Nat)} (h : l ≠ []) : atI (l.map numV) 0 = some (numV (l.headD [])) := by
  cases l with
  | nil => exact absurd rfl h
  | cons a r => exact atI_nat (xs := (a :: r).map numV) (j := 0) rfl
theorem at_last {l : List (List Nat)} (h : l ≠ []) : atI (l.map numV) (-1) = some (numV (l.getLastD [])) := by
  have hl : 0 < l.length := List.length_pos_iff.mpr h
  have e : ixN (l.map numV).length (-1) = some (l.length - 1) := by
    unfold ixN
    rw [List.length_map]
    have h1 : ¬ (0 : Int) ≤ -1 := by omega
    first
      | (rw [if_neg h1, if_pos (by omega)]; congr 1; omega)
      | (simp; omega)
  show (ixN (l.map numV).length (-1)).bind _ = _
  rw [e]
  show (l.map numV)[l.length - 1]? = _
  rw [List.getElem?_map, List.getLastD_eq_getLast?, List.getLast?_eq_getElem?]
  cases q : l[l.length - 1]? with
  | none =>
    have := List.getElem?_eq_none_iff.mp q
    omega
  | some x => rfl
/-- tuple(x), as a reading -/
abbrev rTupOf (K : PySem.W.Frag) : List V → Hp → VK → Prop := fun xs H Q => ∃ p ys, xs = [.ref p] ∧ ((SqL K H p ys ∧ ∀ l, H l = none → Q (.ref l) (upd H l (.tup ys))) ∨ (SqT K H p ys ∧ Q (.ref p) H))
theorem q_asgTL {K : PySem.W.Frag} {te : TE} {u : TS} {D : Ends} {σ : L2.St} {H : Hp} {j : Nat} {xs : List V} (h : EvL te σ H xs)
    (k : ∀ p H1, H p = none → Ex H H1 → H1 p = some (.lst xs) → ∀ m, H1 m = none → u D (σ.set j (some (.ref m))) (upd H1 m (.tup xs))) :
    tSeq (tAsg (tCB (rTupOf K) (tCons te tNil)) (gName j)) u D σ H :=
  h H (Evl.Ex.refl H) _ fun p H1 hp e1 h1 => ⟨p, _, rfl, .inl ⟨.inl (.inl h1), fun m hm => k p H1 hp e1 h1 m hm⟩⟩
theorem nx_of {D : Ends} {σ : L2.St} {H : Hp} (h : D.nx σ H) : tNext D σ H := h
section
variable {P : Program} {w : World} {K : PySem.W.Frag} {mg : Str → Option Value} {base : Heap}
theorem sc_sit : FnScope ["text", "numbers", "stretch", "word"] ["text"] (defScope s_stretch_in_text) := ⟨rfl, rfl, rfl, by decide +kernel, rfl, by decide +kernel, by decide +kernel⟩
theorem g_sit : ∀ x ∈ (["isinstance", "str", "tuple", "is_stretch", "text_of_stretch"] : List Str), (defScope s_stretch_in_text).names.lookup x = some .globalImplicit := by decide +kernel
def spSit : Sp := fun vs H Q _ => ∃ (v : V) (d : PyData), vs = [v] ∧ Dv H v d ∧ ((∀ t, d ≠ .str t) → Q .non H) ∧
  ∀ t, d = .str t → t.length ≤ 99 ∧ (toldP (parts t) = none → ∀ H', Same H H' → Q .non H') ∧
    ∀ a b : Nat, toldP (parts t) = some (a, b) → ∀ p H', H p = none → Same H H' → H' p = some (.tup [.int (a : Int), .int (b : Int)]) → Q (.ref p) H'
theorem ok_sit {f : Addr} {fd : FuncData} (F : Fun K "stretch_in_text" "stretch_in_text" s_stretch_in_text f fd) (B : Bl mg) (h1 : mg "str" = none) (h2 : mg "tuple" = none)
    (D1 : CallO P w K mg base CX0 3 "read_number" ["text"] spRn) (D2 : CallO P w K mg base CX0 2 "is_stretch" ["value"] spSpan) (D3 : CallO P w K mg base CX0 1 "text_of_stretch" ["stretch"] spText) :
    FnOk P w K mg base CX0 4 f fd ["text"] spSit := by
  refine F.ok sc_sit (fun vs H Q E h => ?_) (fun cdv A outer s H vs Q E hr h => ?_)
  · obtain ⟨v, d, rfl, _⟩ := h
    rfl
  · obtain ⟨v, d, rfl, hd, q1, q2⟩ := h
    refine ⟨_, pss_cons (ps_if (pt_not (pt_val (pe_callB call_isi (g_sit _ (.head _)) B.isinstance (by decide +kernel) (pa_cons (pv 0) (pa_cons (pe_bltn (v := .ty "str") (g_sit _ (.tail _ (.head _))) h1 (by decide +kernel) rfl) pa_nil))))) (pss_one (ps_ret pe_non)) pss_nil)
      (pss_cons (ps_set (i := 1) sc_sit.nd rfl (.inl rfl) (pe_callTy call_tuple_of (g_sit _ (.tail _ (.tail _ (.head _)))) h2 (by decide +kernel) (pa_cons
        (pe_lc (own := [("word", 3)]) (g := gName 3) (te := tCall spRn [] (fun _ _ _ => False) (tCons (tVar 3) tNil)) rfl sc_sit.nd (pi_list (pe_split (pv 0) pe_str))
          (blkOk_by (own := [("word", 3)]) (N := ["text", "numbers", "stretch", "word"]) (sc := defScope s_stretch_in_text) (by decide +kernel)) (fun _ _ _ _ _ => pg_name (i := 3) sc_sit.nd rfl (.inl rfl))
          (fun _ _ _ _ _ => pts_nil) (fun _ _ _ _ _ => pe_doO D1 (hr.mono (by decide)) (by rfl) pass0 (pa_cons (pv 3) pa_nil))) pa_nil)))
      (pss_cons (ps_set (i := 2) sc_sit.nd rfl (.inl rfl) (pe_tup (pa_cons (pe_ix ix_tup (pv 1) pe_int (fun _ _ => rfl)) (pa_cons (pe_ix ix_tup (pv 1) (pe_un un_neg pe_int) (fun _ _ => rfl)) pa_nil))))
      (pss_cons (ps_if (PW.pt (pw_or (pt_not (pt_val (pe_doO D2 (hr.mono (by decide)) (g_sit _ (.tail _ (.tail _ (.tail _ (.head _))))) pass0 (pa_cons (pv 2) pa_nil))))
        (pw_or1 (pt_cmpR op_ne (pe_doO D3 (hr.mono (by decide)) (g_sit _ (.tail _ (.tail _ (.tail _ (.tail _ (.head _)))))) pass0 (pa_cons (pv 2) pa_nil)) (pv 0) (nomark _))))) (pss_one (ps_ret pe_non)) pss_nil)
      (pss_one (ps_ret (pv 2)))))), ?_⟩
    refine q_isi rfl hd (by decide) ⟨_, rfl, ?_⟩
    rw [ty_str]
    cases d with
    | str t =>
      refine iteF (nx_of ?_)
      obtain ⟨hl, q3, q4⟩ := q2 t rfl
      cases hd
      have hz : t.length + 2 ≤ sizeLine := Nat.le_trans (Nat.add_le_add_right hl 2) (by decide)
      have plen : (Txt.split t "-").length = (parts t).length := by rw [← parts_eq, List.length_map]
      have pat : ∀ (i : Nat) (x : V), ((Txt.split t "-").map V.str)[i]? = some x → ∃ w : Str, x = .str w ∧ (parts t).getD i [] = tl w ∧ w.length ≤ 99 := by
        intro i x h
        rw [List.getElem?_map] at h
        obtain ⟨w, hw, rfl⟩ := Option.map_eq_some_iff.mp h
        have e : (parts t)[i]? = some (tl w) := by rw [← parts_eq, List.getElem?_map, hw] <;> rfl
        refine ⟨w, rfl, by rw [List.getD_eq_getElem?_getD, e] <;> rfl, ?_⟩
        rw [len_tl]
        exact Nat.le_trans (parts_len (List.mem_of_getElem? e)) hl
      have lcE : EvL (tLc (iList K (tM1 (fun x xs H Q => ∃ a b, x = .str a ∧ xs = [.str b] ∧ (b.length == 0) = false ∧ a.length + 2 ≤ sizeLine ∧ rNewStrs (Txt.split a b) H Q) (tVar 0) (tC (.str "-")))) (gName 3) tYes (tCall spRn [] (fun _ _ _ => False) (tCons (tVar 3) tNil)) [3])
          [some (.str t), none, none, none] H (given ((Txt.split t "-").map V.str).length (fun _ => true) fun i => numV ((parts t).getD i [])) :=
        el_lcNL (xs := (Txt.split t "-").map V.str) (fun _ => true) (fun i => numV ((parts t).getD i []))
          (fun H0 e Q q => ⟨_, rfl, ⟨_, rfl⟩, t, "-", rfl, rfl, by decide, hz, fun p hp => q p _ hp (Evl.Ex.new hp) upd_same⟩)
          (by rw [List.length_map]; exact Nat.le_trans (PyProof.Rows.split_le t "-") (by omega)) (fun _ => rfl) (fun i x H1 e hi => fun H2 _ Q q => q H2 (Evl.Ex.refl H2))
          (fun i x H1 e hi _ => by
            obtain ⟨w, rfl, e1, e2⟩ := pat i x hi
            rw [e1]
            exact fun H2 _ Q q => ⟨_, rfl, w, rfl, e2, q H2 (Evl.Ex.refl H2)⟩)
      have eL : (given ((Txt.split t "-").map V.str).length (fun _ => true) fun i => numV ((parts t).getD i [])) = (parts t).map numV := by
        rw [given_all, List.length_map, plen]
        exact range_get numV [] (parts t)
      rw [eL] at lcE
      have pne : parts t ≠ [] := spl_ne _ _
      have rt : readP ((parts t).headD []) ((parts t).getLastD []) (tl t) = toldP (parts t) := read_told (tl t) (parts t) rfl
      refine q_asgTL (K := K) (j := 1) lcE fun p H1 hp e1 h1 m hm => ?_
      have s1 : Same H (upd H1 m (.tup ((parts t).map numV))) := Same.trans e1 (Same.new hm)
      refine ⟨_, rfl, m, _, 0, _, rfl, rfl, .inl (.inl upd_same), at_first pne, _, rfl, _, rfl, m, _, -1, _, rfl, rfl, .inl (.inl upd_same), at_last pne, by show 2 ≤ sizeLine; decide, fun st hst => ?_⟩
      generalize hP : (parts t).headD [] = P' at rt ⊢
      generalize hQ : (parts t).getLastD [] = Q' at rt ⊢
      have s2 := s1.trans (Same.new (o := .tup [numV P', numV Q']) hst)
      refine ⟨_, rfl, .ref st, .tuple [numD P', numD Q'], rfl, .tup (.inl upd_same) (.cons (num_dv _) (.cons (num_dv _) .nil)), _, rfl, ?_⟩
      cases hs : spanB (.tuple [numD P', numD Q']) with
      | false =>
        refine iteT (iteT (q3 ?_ _ s2))
        rw [← rt]
        exact if_neg fun z => by
          rw [(span_num P' Q').mpr ⟨z.1, z.2.1, z.2.2.1, z.2.2.2.1⟩] at hs
          cases hs
      | true =>
        obtain ⟨c1, c2, c3, c4⟩ := (span_num P' Q').mp hs
        have n1 : numV P' = .int ((val P' : Nat) : Int) := if_pos c1
        have n2 : numV Q' = .int ((val Q' : Nat) : Int) := if_pos c2
        rw [n1, n2] at s2 ⊢
        refine iteF ⟨_, rfl, .ref st, ((val P' : Nat) : Int), ((val Q' : Nat) : Int), rfl, .tup (.inl upd_same) (.cons (.int _) (.cons (.int _) .nil)), by omega, by omega, by omega, _, rfl, rfl, _, rfl, ?_⟩
        have key : spanText ((val P' : Nat) : Int) ((val Q' : Nat) : Int) = t ↔ spanL (val P') (val Q') = tl t := by
          rw [← tl_span]
          exact ⟨fun e => by rw [e], fun e => ext_tl e⟩
        refine ite2 (fun c => ?_) (fun c => ?_)
        · refine q3 ?_ _ s2
          rw [← rt]
          refine if_neg fun z => ?_
          rw [key.mpr z.2.2.2.2] at c
          simp at c
        · have same : spanText ((val P' : Nat) : Int) ((val Q' : Nat) : Int) = t := by
            by_cases z : spanText ((val P' : Nat) : Int) ((val Q' : Nat) : Int) = t
            · exact z
            · exact absurd (by simp [z]) c
          refine ⟨_, rfl, q4 (val P') (val Q') ?_ st _ (s1.free hst) s2 upd_same⟩
          rw [← rt]
          exact if_pos ⟨c1, c2, c3, c4, key.mp same⟩
    | _ => exact iteT (q1 fun t z => nomatch z)
end
end K02
namespace K02
open PySem PySem.Spec PyProof.Rows L2 Tc Evl TL
section
variable {P : Program} {w : World} {K : PySem.W.Frag} {mg : Str → Option Value} {base : Heap}
theorem sc_read : FnScope ["text", "stretch"] ["text"] (defScope s_read_stretch) := ⟨rfl, rfl, rfl, by decide +kernel, rfl, by decide +kernel, by decide +kernel⟩
theorem g_read : ∀ x ∈ (["stretch_in_text", "InvalidText"] : List Str), (defScope s_read_stretch).names.lookup x = some .globalImplicit := by decide +kernel
def spRead (CT : Addr) : Sp := fun vs H Q E => ∃ (v : V) (d : PyData), vs = [v] ∧ Dv H v d ∧ ((∀ t, d ≠ .str t) → up CT v H E) ∧
  ∀ t, d = .str t → t.length ≤ 99 ∧ (toldP (parts t) = none → ∀ H', Same H H' → up CT v H' E) ∧
    ∀ a b : Nat, toldP (parts t) = some (a, b) → ∀ p H', H p = none → Same H H' → H' p = some (.tup [.int (a : Int), .int (b : Int)]) → Q (.ref p) H'
theorem ok_read {f CT : Addr} {fd : FuncData} (F : Fun K "read_stretch" "read_stretch" s_read_stretch f fd) (RS : Rs K mg "InvalidText" CT)
    (D : CallO P w K mg base CX0 4 "stretch_in_text" ["text"] spSit) : FnOk P w K mg base (L2.CX P w) 5 f fd ["text"] (spRead CT) := by
  refine F.okX sc_read (fun vs H Q E h => ?_) (fun cdv A outer s H vs Q E hr h => ?_)
  · obtain ⟨v, d, rfl, _⟩ := h
    rfl
  · obtain ⟨v, d, rfl, hd, q1, q2⟩ := h
    have tk := takes_of (X := cxOf (L2.CX P w) P w K mg base ["text", "stretch"] "read_stretch" (defScope s_read_stretch) f cdv A outer s H E) (E := E) rfl rfl rfl rfl
    refine ⟨_, pss_cons (ps_set (i := 1) sc_read.nd rfl (.inl rfl) (pe_doO D (hr.mono (by decide)) (g_read _ (.head _)) pass0 (pa_cons (pv 0) pa_nil)))
      (pss_cons (ps_if (pt_cmpR op_isN (pv 1) pe_non (nomark _)) (pss_one (ps_raise rfl tk (pmk_newX RS.nw RS.ex RS.ty hr (g_read _ (.tail _ (.head _))) (pv 0)))) pss_nil)
      (pss_one (ps_ret (pv 1)))), ?_⟩
    have none_ : ∀ H', up CT v H' E → tSeq (tIfS (tTest (tOp (fun x y H Q => y = .non ∧ Q (.bl (decide (x = .non))) H) (tVar 1) (tC .non))) (fun D σ H => tMkX CT "given" (tVar 0) σ H fun cls d H' => E cls d H') tNext) (tRet (tVar 1))
        { nx := fun _ H' => Q .non H', rt := Q } [some v, some .non] H' := fun H' h => ⟨_, rfl, rfl, _, rfl, iteT ⟨_, rfl, h⟩⟩
    refine ⟨_, rfl, v, d, rfl, hd, fun h => none_ H (q1 h), fun t ht => ?_⟩
    obtain ⟨hl, q3, q4⟩ := q2 t ht
    refine ⟨hl, fun h H' s => none_ H' (q3 h H' s), fun a b h p H' hp s hq => ?_⟩
    exact ⟨_, rfl, rfl, _, rfl, iteF ⟨_, rfl, q4 a b h p H' hp s hq⟩⟩
theorem sc_word : FnScope ["_law_span_here"] ["_law_span_here"] (defScope s_word) := ⟨rfl, rfl, rfl, by decide +kernel, rfl, by decide +kernel, by decide +kernel⟩
theorem g_word : ∀ x ∈ (["str"] : List Str), (defScope s_word).names.lookup x = some .globalImplicit := by decide +kernel
theorem ok_word {f : Addr} {fd : FuncData} (F : Fun K "_law_word" "_law_word" s_word f fd) (h1 : mg "str" = none) : FnOk P w K mg base CX0 1 f fd ["_law_span_here"] spText := by
  refine F.ok sc_word (fun vs H Q E h => ?_) (fun cdv A outer s H vs Q E hr h => ?_)
  · obtain ⟨v, a, b, rfl, _⟩ := h
    rfl
  · obtain ⟨v, a, b, rfl, hd, h0, h1', h2, q⟩ := h
    refine ⟨_, pss_one (ps_ret (pe_ifExp (pt_cmpR op_eq (pe_ix ix_tup (pv 0) pe_int (fun _ _ => rfl)) (pe_ix ix_tup (pv 0) pe_int (fun _ _ => rfl)) (nomark _))
      (pe_callTy call_str_int (g_word _ (.head _)) h1 (by decide +kernel) (pa_cons (pe_ix ix_tup (pv 0) pe_int (fun _ _ => rfl)) pa_nil))
      (pe_op op_add_str (pe_op op_add_str (pe_callTy call_str_int (g_word _ (.head _)) h1 (by decide +kernel) (pa_cons (pe_ix ix_tup (pv 0) pe_int (fun _ _ => rfl)) pa_nil)) pe_str)
        (pe_callTy call_str_int (g_word _ (.head _)) h1 (by decide +kernel) (pa_cons (pe_ix ix_tup (pv 0) pe_int (fun _ _ => rfl)) pa_nil))))), ?_⟩
    obtain ⟨t, xs, rfl, ht, hx⟩ := hd.isT
    cases hx with
    | cons e1 er =>
    cases er with
    | cons e2 er2 =>
    cases er2
    cases e1
    cases e2
    have ix0 : ∀ {Q' : VK}, Q' (.int a) H → tOp (rIxT K) (tVar 0) (tC (.int 0)) [some (.ref t)] H Q' := fun q' => ⟨_, rfl, t, _, 0, _, rfl, rfl, .inl ht, rfl, q'⟩
    have ix1 : ∀ {Q' : VK}, Q' (.int b) H → tOp (rIxT K) (tVar 0) (tC (.int 1)) [some (.ref t)] H Q' := fun q' => ⟨_, rfl, t, _, 1, _, rfl, rfl, .inl ht, rfl, q'⟩
    refine ix0 (ix1 ⟨rfl, _, rfl, ?_⟩)
    refine ite2 (fun c => ?_) (fun c => ?_)
    · have e : a = b := V.int.inj (of_decide_eq_true c)
      unfold spanText at q
      rw [if_pos e] at q
      exact ix0 ⟨a, rfl, log_ok h0 (by omega), q⟩
    · have e : ¬ a = b := fun z => c (by rw [z]; exact decide_eq_true rfl)
      unfold spanText at q
      rw [if_neg e] at q
      have la := int_len h0 (by omega : a ≤ 4000)
      have lb := int_len (by omega : 0 ≤ b) h2
      have l2 : (Str.ofString (toString a) ++ ("-" : Str)).length ≤ 5 := by
        rw [str_len_app]
        exact Nat.add_le_add la (by decide : ("-" : Str).length ≤ 1)
      refine ix0 ⟨a, rfl, log_ok h0 (by omega), _, _, rfl, rfl, ?_, ix1 ⟨b, rfl, log_ok (by omega) h2, _, _, rfl, rfl, ?_, q⟩⟩
      · exact Nat.le_trans (Nat.add_le_add la (by decide : ("-" : Str).length ≤ 1)) (by decide)
      · exact Nat.le_trans (Nat.add_le_add l2 lb) (by decide)
end
end K02
namespace Tc
open PySem PySem.Spec PyProof.Rows L2 Evl
/-- over a text -/
theorem el_lcS {z : Str} {t : TT} {te tl : TE} {σ : L2.St} {H : Hp} {j : Nat} {vs : List Nat} (f : Nat → Bool) (v : Nat → V) (h : Ev tl σ H (.str z)) (hz : z.cps.size ≤ 40000) (hw : ∀ x, wipe ((wipe σ vs).set j (some x)) vs = wipe σ vs)
    (ht : ∀ (i c : Nat) H1, Ex H H1 → z.cps[i]? = some c → EvT t ((wipe σ vs).set j (some (.str ⟨#[c]⟩))) H1 (f i)) (he : ∀ (i c : Nat) H1, Ex H H1 → z.cps[i]? = some c → f i = true → Ev te ((wipe σ vs).set j (some (.str ⟨#[c]⟩))) H1 (v i)) :
    EvL (tLc (iStr tl) (gName j) t te vs) σ H (given z.cps.size f v) := fun H0 e Q q => h H0 e _ fun H1 e1 => ⟨z, rfl, fun Dl hD =>
  lc_it (walk_str (z := z)) (Cw H1 f v Dl) ⟨hD, Evl.Ex.new hD, upd_same⟩ (fun _ _ _ _ => True.intro) (fun i x H2 H3 hi p y => by
    obtain ⟨rfl, c, hc, rfl⟩ := y
    exact ⟨hw _, cw_turn p (by omega) (ht i c H1 (e.trans e1) hc) (fun hf => he i c H1 (e.trans e1) hc hf)⟩)
    (fun H' p => q Dl H' (fresh_back e1 p.1) (e1.trans p.2.1) p.2.2)⟩
/-- or, after a new list is compared -/
theorem q_orL {r : R2} {te ta : TE} {u : TT} {σ : L2.St} {H : Hp} {xs : List V} {Q : Bool → Hp → Prop} (h : EvL te σ H xs)
    (k : ∀ p H1, H p = none → Ex H H1 → H1 p = some (.lst xs) → ta σ H1 fun y H2 => r (.ref p) y H2 fun x H' => ∃ b, x = .bl b ∧ (if b = true then Q true H' else u σ H' Q)) :
    tOr (tTest (tOp r te ta)) u σ H Q := h H (Evl.Ex.refl H) _ k
theorem dp_strs {K : PySem.W.Frag} {H : Hp} : ∀ l : List Str, DpAll K H (l.map V.str) (l.map PyData.str)
  | [] => .nil
  | s :: l => .cons (.str s) (dp_strs l)
theorem lay_strs : ∀ l : List Str, (∀ s ∈ l, PyData.strOk s = true) → PyData.canLayAll0 (l.map PyData.str) = true
  | [], _ => rfl
  | s :: l, h => by
    show (PyData.strOk s && PyData.canLayAll0 (l.map PyData.str)) = true
    rw [h s (.head _), lay_strs l fun t ht => h t (.tail _ ht)] <;> rfl
theorem depth_strs : ∀ l : List Str, PyData.depthAll (l.map PyData.str) = 0
  | [] => rfl
  | s :: l => by
    show max 0 (PyData.depthAll (l.map PyData.str)) = 0
    rw [depth_strs l] <;> rfl
theorem shaped_strs {l : List Str} (h : ∀ s ∈ l, PyData.strOk s = true) : SeqAt.shaped (.list (l.map PyData.str)) = true := by
  show (PyData.canLayAll0 (l.map PyData.str) && decide (PyData.depthAll (l.map PyData.str) + 1 ≤ 64)) = true
  rw [lay_strs l h, depth_strs] <;> rfl
theorem eqv_nil (l : List Str) : PyData.eqv (.list (l.map PyData.str)) (.list []) = l.isEmpty := by
  cases l <;> rfl
end Tc
namespace K02
open PySem PySem.Spec PyProof.Rows L2 Tc Evl TL
theorem sign_in : ∀ c : Fin 128, (Builtin.Str.occurrences ("0123456789" : Str) ⟨#[c.val]⟩ 0 ("0123456789" : Str).length 1).isEmpty = !(decide (48 ≤ c.val) && decide (c.val ≤ 57)) := by decide +kernel
/-- what _law_number makes of a word -/
def numI (l : List Nat) : Int := if canB l = true then ((val l : Nat) : Int) else -1
section
variable {P : Program} {w : World} {K : PySem.W.Frag} {mg : Str → Option Value} {base : Heap}
theorem sc_num : FnScope ["_law_word_here", "_law_sign"] ["_law_word_here"] (defScope s_number) := ⟨rfl, rfl, rfl, by decide +kernel, rfl, by decide +kernel, by decide +kernel⟩
theorem g_num : ∀ x ∈ (["int"] : List Str), (defScope s_number).names.lookup x = some .globalImplicit := by decide +kernel
def spNum : Sp := fun vs H Q _ => ∃ t : Str, vs = [.str t] ∧ t.length ≤ 100 ∧ (∀ c ∈ tl t, c < 128) ∧ ∀ H', Same H H' → Q (.int (numI (tl t))) H'
theorem ok_num {f : Addr} {fd : FuncData} (F : Fun K "_law_number" "_law_number" s_number f fd) (B : Bl mg) : FnOk P w K mg base CX0 1 f fd ["_law_word_here"] spNum := by
  refine F.ok sc_num (fun vs H Q E h => ?_) (fun cdv A outer s H vs Q E hr h => ?_)
  · obtain ⟨t, rfl, _⟩ := h
    rfl
  · obtain ⟨t, rfl, hl, h128, q⟩ := h
    have hu : (A.deeper (envOfC "_law_number" (defScope s_number) s.heap.objs.size f cdv)).units + 64 < cLine := hr.units
    refine ⟨_, pss_cons (ps_if (PW.pt (pw_or (pt_cmpR op_eq (pv 0) pe_str (nomark _)) (pw_or (pt_cmpR (op_neD hu)
        (pe_lc (own := [("_law_sign", 1)]) (g := gName 1) (te := tVar 1) rfl sc_num.nd (pi_str (pv 0)) (blkOk_by (own := [("_law_sign", 1)]) (N := ["_law_word_here", "_law_sign"]) (sc := defScope s_number) (by decide +kernel)) (fun _ _ _ _ _ => pg_name (i := 1) sc_num.nd rfl (.inl rfl))
          (fun _ _ _ _ _ => pts_one (pt_cmpR op_notin_str (pv 1) pe_str (by rfl))) (fun _ _ _ _ _ => pv 1)) (pe_lst pa_nil) (nomark _))
        (pw_or1 (PW.pt (pw_and (pt_cmpR op_eq (pe_ix ix_str (pv 0) pe_int (fun _ _ => rfl)) pe_str (nomark _)) (pw_and1 (pt_cmpR op_ne (pv 0) pe_str (nomark _))))))))) (pss_one (ps_ret (pe_un un_neg pe_int))) pss_nil)
      (pss_one (ps_ret (pe_callTy call_int_str (g_num _ (.head _)) B.int (by decide +kernel) (pa_cons (pv 0) pa_nil)))), ?_⟩
    have no : canB (tl t) = false → ∀ H', Same H H' → Q (.int (-1)) H' := fun e H' s => by
      have z := q H' s
      unfold numI at z
      rw [if_neg (by rw [e]; decide)] at z
      exact z
    refine ⟨_, rfl, rfl, _, rfl, ?_⟩
    refine ite2 (fun c => ?_) (fun c => ?_)
    · refine iteT ⟨_, rfl, no ?_ H (Same.refl H)⟩
      have e : t = "" := V.str.inj (of_decide_eq_true c)
      rw [e]
      rfl
    have t0 : t ≠ "" := fun z => c (by rw [z]; exact decide_eq_true rfl)
    have l0 : tl t ≠ [] := fun z => t0 (ext_tl z)
    have gt : ∀ (i c : Nat), t.cps[i]? = some c → (tl t)[i]? = some c := fun i c h => by
      rw [← h]
      exact Array.getElem?_toList
    have lcE : EvL (tLc (iStr (tVar 0)) (gName 1) (tTest (tOp (fun x y H Q => ∃ i j, x = .str i ∧ y = .str j ∧ Q (.bl (!(!(Builtin.Str.occurrences j i 0 j.length 1).isEmpty))) H) (tVar 1) (tC (.str "0123456789")))) (tVar 1) [1]) [some (.str t), none] H
        (given t.cps.size (fun i => !(decide (48 ≤ (tl t).getD i 0) && decide ((tl t).getD i 0 ≤ 57))) fun i => .str ⟨#[(tl t).getD i 0]⟩) :=
      el_lcS (z := t) _ _ (ev_var rfl) (Nat.le_trans hl (by decide)) (fun _ => rfl)
        (fun i c H1 e hc => fun H2 _ Q q => ⟨_, rfl, _, _, rfl, rfl, _, rfl, by
          have hc := gt i c hc
          have h1 := h128 c (List.mem_of_getElem? hc)
          have z := sign_in ⟨c, h1⟩
          have z : (Builtin.Str.occurrences ("0123456789" : Str) ⟨#[c]⟩ 0 ("0123456789" : Str).length 1).isEmpty = !(decide (48 ≤ c) && decide (c ≤ 57)) := z
          rw [z, Bool.not_not]
          rw [List.getD_eq_getElem?_getD, hc] at q
          exact q H2 (Evl.Ex.refl H2)⟩)
        (fun i c H1 e hc _ => by
          rw [List.getD_eq_getElem?_getD, gt i c hc]
          exact ev_var rfl)
    refine q_orL lcE fun D H1 hD e1 h1 => ⟨by show 0 ≤ sizeLine; decide, fun m hm => ?_⟩
    generalize hG : ((List.range t.cps.size).filter fun i => !(decide (48 ≤ (tl t).getD i 0) && decide ((tl t).getD i 0 ≤ 57))) = is at h1
    have eG : given t.cps.size (fun i => !(decide (48 ≤ (tl t).getD i 0) && decide ((tl t).getD i 0 ≤ 57))) (fun i => V.str ⟨#[(tl t).getD i 0]⟩) = (is.map fun i => (⟨#[(tl t).getD i 0]⟩ : Str)).map V.str := by
      unfold given
      rw [hG, List.map_map]
      rfl
    have s2 : Same H (upd H1 m (.lst [])) := Same.trans e1 (Same.new hm)
    have h1 : H1 D = some (.lst ((is.map fun i => (⟨#[(tl t).getD i 0]⟩ : Str)).map V.str)) := by rw [h1, ← eG]
    have dm : D ≠ m := ne_of_none h1 hm
    have ok : ∀ s ∈ (is.map fun i => (⟨#[(tl t).getD i 0]⟩ : Str)), PyData.strOk s = true := fun s hs => by
      obtain ⟨i, hi, rfl⟩ := List.mem_map.mp hs
      rw [← hG] at hi
      have hlt : i < (tl t).length := by
        have z := List.mem_range.mp (List.mem_filter.mp hi).1
        rw [← len_tl]
        exact z
      have z : (tl t).getD i 0 < 128 := by
        rw [List.getD_eq_getElem?_getD, List.getElem?_eq_getElem hlt]
        exact h128 _ (List.getElem_mem hlt)
      show (#[(tl t).getD i 0].all fun c => decide (c < 0x110000)) = true
      simp only [List.all_toArray, Array.all_toList, List.all_cons, List.all_nil, Bool.and_true, decide_eq_true_eq, Array.all_eq_true']
      first
        | omega
        | (intro c hc; simp at hc; omega)
    refine ⟨.list ((is.map fun i => (⟨#[(tl t).getD i 0]⟩ : Str)).map PyData.str), .list [], .lst (.inl (.inl (by rw [upd_ne dm]; exact h1))) (dp_strs _), .lst (.inl (.inl upd_same)) .nil, shaped_strs ok, by decide, _, rfl, ?_⟩
    rw [eqv_nil]
    cases his : is with
    | cons i r =>
      refine iteT (iteT ⟨_, rfl, no ?_ _ s2⟩)
      have hi : i ∈ ((List.range t.cps.size).filter fun i => !(decide (48 ≤ (tl t).getD i 0) && decide ((tl t).getD i 0 ≤ 57))) := by rw [hG, his]; exact .head _
      obtain ⟨h2, h3⟩ := List.mem_filter.mp hi
      have hlt : i < (tl t).length := by
        have z := List.mem_range.mp h2
        rw [← len_tl]
        exact z
      refine Bool.eq_false_iff.mpr fun z => ?_
      have ad := can_dig z _ (List.getElem_mem hlt)
      rw [List.getD_eq_getElem?_getD, List.getElem?_eq_getElem hlt] at h3
      have h3 : (!(decide (48 ≤ (tl t)[i]) && decide ((tl t)[i] ≤ 57))) = true := h3
      rw [decide_eq_true ad.1, decide_eq_true ad.2] at h3
      cases h3
    | nil =>
      refine iteF ?_
      have ad : NumText.AllDigits (tl t) := by
        intro c hc
        obtain ⟨i, hlt, rfl⟩ := List.mem_iff_getElem.mp hc
        have hi : i ∉ ((List.range t.cps.size).filter fun i => !(decide (48 ≤ (tl t).getD i 0) && decide ((tl t).getD i 0 ≤ 57))) := by rw [hG, his]; exact List.not_mem_nil
        have hr : i ∈ List.range t.cps.size := List.mem_range.mpr (by
          have z := hlt
          rw [← len_tl] at z
          exact z)
        by_cases z : 48 ≤ (tl t)[i] ∧ (tl t)[i] ≤ 57
        · exact z
        · refine absurd (List.mem_filter.mpr ⟨hr, ?_⟩) hi
          rw [List.getD_eq_getElem?_getD, List.getElem?_eq_getElem hlt]
          show (!(decide (48 ≤ (tl t)[i]) && decide ((tl t)[i] ≤ 57))) = true
          by_cases z1 : 48 ≤ (tl t)[i]
          · have z2 : ¬ (tl t)[i] ≤ 57 := fun y => z ⟨z1, y⟩
            rw [decide_eq_false z2, Bool.and_false] <;> rfl
          · rw [decide_eq_false z1] <;> rfl
      have n2 : ((tl t).all fun c => decide (48 ≤ c) && decide (c ≤ 57)) = true := List.all_eq_true.mpr fun c hc => by
        rw [decide_eq_true (ad c hc).1, decide_eq_true (ad c hc).2] <;> rfl
      have hz : t.length ≤ sizeLine := Nat.le_trans hl (by decide)
      cases hc : tl t with
      | nil => exact absurd hc l0
      | cons c r =>
      have at0 : atI (t.cps.toList) 0 = some c := by
        show atI (tl t) 0 = _
        rw [hc]
        exact atI_nat (xs := c :: r) (j := 0) rfl
      have cb : canB (tl t) = (!(c == 48) || r.isEmpty) := by
        unfold canB
        rw [n2, hc] <;> rfl
      have fin : canB (tl t) = true → ∀ H', Same H H' → (rIntS [.str t] H' Q) := fun e H' s => by
        refine ⟨t, ((val (tl t) : Nat) : Int), rfl, intText_digits ad l0 (by omega), by omega, ?_⟩
        have z := q H' s
        unfold numI at z
        rw [if_pos e] at z
        exact z
      refine ⟨_, rfl, t, 0, c, rfl, rfl, hz, at0, rfl, _, rfl, ?_⟩
      refine ite2 (fun e0 => ?_) (fun e0 => ?_)
      · have e48 : c = 48 := by
          have z := V.str.inj (of_decide_eq_true e0)
          exact (List.cons.inj (congrArg tl z)).1
        refine ⟨_, rfl, rfl, _, rfl, ?_⟩
        refine ite2 (fun e1 => ?_) (fun e1 => ?_)
        · refine ⟨_, rfl, no ?_ _ s2⟩
          rw [cb, e48]
          cases r with
          | nil =>
            have : t = "0" := (zero_tl t).mpr (by rw [hc, e48])
            rw [this] at e1
            simp at e1
          | cons _ _ => rfl
        · have : t = "0" := by
            by_cases z : t = "0"
            · exact z
            · exact absurd (by simp [z]) e1
          refine ⟨_, rfl, fin ?_ _ s2⟩
          rw [this]
          decide
      · refine iteF ⟨_, rfl, fin ?_ _ s2⟩
        rw [cb]
        have : ¬ c = 48 := fun z => e0 (by rw [z]; exact decide_eq_true rfl)
        simp [this]
end
end K02
namespace K02
open PySem PySem.Spec PyProof.Rows L2 Tc Evl TL
section
variable {P : Program} {w : World} {K : PySem.W.Frag} {mg : Str → Option Value} {base : Heap}
theorem sc_told : FnScope ["_law_text", "_law_ends", "_law_word_here"] ["_law_text"] (defScope s_told) := ⟨rfl, rfl, rfl, by decide +kernel, rfl, by decide +kernel, by decide +kernel⟩
theorem g_told : ∀ x ∈ (["isinstance", "str", "len"] : List Str), (defScope s_told).names.lookup x = some .globalImplicit := by decide +kernel
def spTold : Sp := fun vs H Q _ => ∃ (v : V) (d : PyData), vs = [v] ∧ Dv H v d ∧ ((∀ t, d ≠ .str t) → ∀ p H', H p = none → Same H H' → H' p = some (.lst []) → Q (.ref p) H') ∧
  ∀ t, d = .str t → t.length ≤ 100 ∧ (∀ c ∈ tl t, c < 128) ∧ (toldP (parts t) = none → ∀ p H', H p = none → Same H H' → H' p = some (.lst []) → Q (.ref p) H') ∧
    ∀ a b : Nat, toldP (parts t) = some (a, b) → ∀ p u H', H p = none → Same H H' → H' p = some (.lst [.ref u]) → H' u = some (.tup [.int (a : Int), .int (b : Int)]) → Q (.ref p) H'
theorem neg_no (n : Nat) : eqV (.int ((n : Nat) : Int)) (.int (-1)) = false := by
  cases h : eqV (.int ((n : Nat) : Int)) (.int (-1)) with
  | false => rfl
  | true =>
    have z : ((n : Nat) : Int) = -1 := by simpa [eqV] using h
    omega
theorem neg_yes : eqV (.int (-1)) (.int (-1)) = true := by decide
theorem inV_cons (x y : V) (ys : List V) : inV x (y :: ys) = (eqV y x || inV x ys) := rfl
theorem inV_nil (x : V) : inV x [] = false := rfl
theorem part_mem : ∀ (ps : List (List Nat)) (p : List Nat) (c : Nat), p ∈ ps → c ∈ p → c ∈ joinL [45] ps
  | [q], p, c, h, hc => by
    rw [List.mem_singleton.mp h] at hc
    exact hc
  | q :: r :: s, p, c, h, hc => by
    rw [join_cons (List.cons_ne_nil r s)]
    rcases List.mem_cons.mp h with z | z
    · rw [z] at hc
      exact List.mem_append_left _ hc
    · exact List.mem_append_right _ (List.mem_append_right _ (part_mem (r :: s) p c z hc))
theorem ok_told {f : Addr} {fd : FuncData} (F : Fun K "_law_told" "_law_told" s_told f fd) (B : Bl mg) (h1 : mg "str" = none)
    (D : CallO P w K mg base CX0 1 "_law_number" ["_law_word_here"] spNum) : FnOk P w K mg base CX0 2 f fd ["_law_text"] spTold := by
  refine F.ok sc_told (fun vs H Q E h => ?_) (fun cdv A outer s H vs Q E hr h => ?_)
  · obtain ⟨v, d, rfl, _⟩ := h
    rfl
  · obtain ⟨v, d, rfl, hd, q1, q2⟩ := h
    refine ⟨_, pss_cons (ps_if (pt_not (pt_val (pe_callB call_isi (g_told _ (.head _)) B.isinstance (by decide +kernel) (pa_cons (pv 0) (pa_cons (pe_bltn (v := .ty "str") (g_told _ (.tail _ (.head _))) h1 (by decide +kernel) rfl) pa_nil))))) (pss_one (ps_ret (pe_lst pa_nil))) pss_nil)
      (pss_cons (ps_setLc (i := 1) (own := [("_law_word_here", 2)]) (g := gName 2) (te := tCall spNum [] (fun _ _ _ => False) (tCons (tVar 2) tNil)) rfl sc_told.nd rfl (by rfl) (by rfl) (pi_list (pe_split (pv 0) pe_str))
          (blkOk_by (own := [("_law_word_here", 2)]) (N := ["_law_text", "_law_ends", "_law_word_here"]) (sc := defScope s_told) (by decide +kernel)) (fun _ _ _ _ _ => pg_name (i := 2) sc_told.nd rfl (.inl rfl))
          (fun _ _ _ _ _ => pts_nil) (fun _ _ _ _ _ => pe_doO D hr (by rfl) pass0 (pa_cons (pv 2) pa_nil)))
      (pss_cons (ps_if (PW.pt (pw_or (pt_cmpR op_gt (pe_callB call_len (g_told _ (.tail _ (.tail _ (.head _)))) B.len (by decide +kernel) (pa_cons (pv 1) pa_nil)) pe_int (nomark _))
        (pw_or (pt_cmpR op_in_seq (pe_un un_neg pe_int) (pv 1) (by rfl))
        (pw_or (PW.pt (pw_and (pt_cmpR op_eq (pe_callB call_len (g_told _ (.tail _ (.tail _ (.head _)))) B.len (by decide +kernel) (pa_cons (pv 1) pa_nil)) pe_int (nomark _))
            (pw_and1 (pt_cmpR op_ge (pe_ix ix_list (pv 1) pe_int (fun _ _ => rfl)) (pe_ix ix_list (pv 1) pe_int (fun _ _ => rfl)) (nomark _)))))
          (pw_or1 (pt_cmpR op_gt (pe_ix ix_list (pv 1) (pe_un un_neg pe_int) (fun _ _ => rfl)) pe_int (nomark _))))))) (pss_one (ps_ret (pe_lst pa_nil))) pss_nil)
      (pss_one (ps_ret (pe_lst (pa_cons (pe_tup (pa_cons (pe_ix ix_list (pv 1) pe_int (fun _ _ => rfl)) (pa_cons (pe_ix ix_list (pv 1) (pe_un un_neg pe_int) (fun _ _ => rfl)) pa_nil))) pa_nil)))))), ?_⟩
    refine q_isi rfl hd (by decide) ⟨_, rfl, ?_⟩
    rw [ty_str]
    cases d with
    | str t =>
      refine iteF (nx_of ?_)
      obtain ⟨hl, h128, q3, q4⟩ := q2 t rfl
      cases hd
      have hz : t.length + 2 ≤ sizeLine := Nat.le_trans (Nat.add_le_add_right hl 2) (by decide)
      have plen : (Txt.split t "-").length = (parts t).length := by rw [← parts_eq, List.length_map]
      have pat : ∀ (i : Nat) (x : V), ((Txt.split t "-").map V.str)[i]? = some x → ∃ w : Str, x = .str w ∧ (parts t).getD i [] = tl w ∧ w.length ≤ 100 ∧ ∀ c ∈ tl w, c < 128 := by
        intro i x h
        rw [List.getElem?_map] at h
        obtain ⟨w, hw, rfl⟩ := Option.map_eq_some_iff.mp h
        have e : (parts t)[i]? = some (tl w) := by rw [← parts_eq, List.getElem?_map, hw] <;> rfl
        refine ⟨w, rfl, by rw [List.getD_eq_getElem?_getD, e] <;> rfl, ?_, fun c hc => ?_⟩
        · rw [len_tl]
          exact Nat.le_trans (parts_len (List.mem_of_getElem? e)) hl
        · have z := part_mem _ _ c (List.mem_of_getElem? e) hc
          rw [show joinL [45] (parts t) = tl t from spl_back (tl t) []] at z
          exact h128 c z
      have lcE : EvL (tLc (iList K (tM1 (fun x xs H Q => ∃ a b, x = .str a ∧ xs = [.str b] ∧ (b.length == 0) = false ∧ a.length + 2 ≤ sizeLine ∧ rNewStrs (Txt.split a b) H Q) (tVar 0) (tC (.str "-")))) (gName 2) tYes (tCall spNum [] (fun _ _ _ => False) (tCons (tVar 2) tNil)) [2])
          [some (.str t), none, none] H (given ((Txt.split t "-").map V.str).length (fun _ => true) fun i => V.int (numI ((parts t).getD i []))) :=
        el_lcNL (xs := (Txt.split t "-").map V.str) (fun _ => true) (fun i => V.int (numI ((parts t).getD i [])))
          (fun H0 e Q q => ⟨_, rfl, ⟨_, rfl⟩, t, "-", rfl, rfl, by decide, hz, fun p hp => q p _ hp (Evl.Ex.new hp) upd_same⟩)
          (by rw [List.length_map]; exact Nat.le_trans (PyProof.Rows.split_le t "-") (by omega)) (fun _ => rfl) (fun i x H1 e hi => fun H2 _ Q q => q H2 (Evl.Ex.refl H2))
          (fun i x H1 e hi _ => by
            obtain ⟨w, rfl, e1, e2, e3⟩ := pat i x hi
            rw [e1]
            exact fun H2 _ Q q => ⟨_, rfl, w, rfl, e2, e3, fun H3 s => q H3 s⟩)
      have eL : (given ((Txt.split t "-").map V.str).length (fun _ => true) fun i => V.int (numI ((parts t).getD i []))) = (parts t).map fun l => V.int (numI l) := by
        rw [given_all, List.length_map, plen]
        exact range_get (fun l => V.int (numI l)) [] (parts t)
      rw [eL] at lcE
      refine q_asgL lcE fun m H1 hm e1 h1 => ?_
      have s1 : Same H H1 := e1
      have rt : ∀ ps, parts t = ps → toldP ps = toldP (parts t) := fun ps e => by rw [e]
      have bad : toldP (parts t) = none → tRet (tLst tNil) { nx := fun _ H' => Q .non H', rt := Q } [some (.str t), some (.ref m), none] H1 := fun e =>
        ⟨by show 0 ≤ sizeLine; decide, fun p hp => q3 e p _ (s1.free hp) (s1.trans (Same.new hp)) upd_same⟩
      have good : ∀ {x y : V} {a b : Nat} {l : List V}, H1 m = some (.lst l) → atI l 0 = some x → atI l (-1) = some y → x = .int a → y = .int b → toldP (parts t) = some (a, b) →
          tRet (tLst (tCons (tTup (tCons (tOp (rIxL K) (tVar 1) (tC (.int 0))) (tCons (tOp (rIxL K) (tVar 1) (tUn (rU fun i => .int (-i)) (tC (.int 1)))) tNil))) tNil)) { nx := fun _ H' => Q .non H', rt := Q } [some (.str t), some (.ref m), none] H1 := by
        rintro x y a b l hl' h0 h2 rfl rfl e
        refine ⟨_, rfl, m, _, 0, _, rfl, rfl, .inl (.inl hl'), h0, _, rfl, _, rfl, m, _, -1, _, rfl, rfl, .inl (.inl hl'), h2, by show 2 ≤ sizeLine; decide, fun u hu => ⟨by show 1 ≤ sizeLine; decide, fun p hp => ?_⟩⟩
        have pu : u ≠ p := ne_of_none upd_same hp
        refine q4 a b e p u _ ((s1.trans (Same.new hu)).free hp) (s1.trans ((Same.new hu).trans (Same.new hp))) upd_same ?_
        rw [upd_ne pu]
        exact upd_same
      cases hP : parts t with
      | nil => exact absurd hP (spl_ne _ _)
      | cons p ps =>
      rw [hP] at h1 rt
      cases ps with
      | nil =>
        have h1 : H1 m = some (.lst [.int (numI p)]) := h1
        have tp : toldP (parts t) = if canB p = true ∧ val p ≤ 4000 then some (val p, val p) else none := by rw [hP] <;> rfl
        refine ⟨_, rfl, _, 1, rfl, .inl ⟨_, .inl (.inl h1), rfl⟩, _, _, rfl, rfl, _, rfl, iteF ?_⟩
        refine ⟨_, rfl, _, rfl, m, _, rfl, .inl (.inl (.inl h1)), rfl, rfl, _, rfl, ?_⟩
        show if inV (.int (-1)) [.int (numI p)] = true then _ else _
        by_cases hc : canB p = true
        · have n1 : numI p = ((val p : Nat) : Int) := if_pos hc
          rw [n1] at h1 ⊢
          rw [inV_cons, neg_no, inV_nil]
          refine iteF ⟨_, rfl, _, 1, rfl, .inl ⟨_, .inl (.inl h1), rfl⟩, rfl, _, rfl, ?_⟩
          refine ite2 (fun c => absurd c (by decide)) (fun _ => ?_)
          refine iteF ⟨_, rfl, _, rfl, m, _, -1, _, rfl, rfl, .inl (.inl h1), rfl, _, _, rfl, rfl, _, rfl, ?_⟩
          refine ite2 (fun c => bad ?_) (fun c => ?_)
          · have c := of_decide_eq_true c
            rw [tp, if_neg fun z => by have := z.2; omega]
          · refine nx_of (good h1 rfl rfl rfl rfl ?_)
            have c : ¬ ((val p : Nat) : Int) > 4000 := fun z => c (decide_eq_true z)
            rw [tp, if_pos ⟨hc, by omega⟩]
        · have n1 : numI p = -1 := if_neg hc
          rw [n1, inV_cons, neg_yes, Bool.true_or]
          refine iteT (iteT (bad ?_))
          rw [tp, if_neg fun z => hc z.1]
      | cons q ps =>
      cases ps with
      | nil =>
        have h1 : H1 m = some (.lst [.int (numI p), .int (numI q)]) := h1
        have tp : toldP (parts t) = if canB p = true ∧ canB q = true ∧ val p < val q ∧ val q ≤ 4000 then some (val p, val q) else none := by rw [hP] <;> rfl
        refine ⟨_, rfl, _, 2, rfl, .inl ⟨_, .inl (.inl h1), rfl⟩, _, _, rfl, rfl, _, rfl, iteF ?_⟩
        refine ⟨_, rfl, _, rfl, m, _, rfl, .inl (.inl (.inl h1)), rfl, rfl, _, rfl, ?_⟩
        show if inV (.int (-1)) [.int (numI p), .int (numI q)] = true then _ else _
        by_cases hc : canB p = true
        · have n1 : numI p = ((val p : Nat) : Int) := if_pos hc
          rw [n1] at h1 ⊢
          rw [inV_cons, neg_no, Bool.false_or]
          by_cases hc2 : canB q = true
          · have n2 : numI q = ((val q : Nat) : Int) := if_pos hc2
            rw [n2] at h1 ⊢
            rw [inV_cons, neg_no, inV_nil]
            refine iteF ⟨_, rfl, _, 2, rfl, .inl ⟨_, .inl (.inl h1), rfl⟩, rfl, _, rfl, ?_⟩
            refine ite2 (fun _ => ?_) (fun c => absurd (show decide (V.int ((2 : Nat) : Int) = V.int 2) = true from by decide) c)
            refine ⟨_, rfl, m, _, 0, _, rfl, rfl, .inl (.inl h1), rfl, _, rfl, m, _, 1, _, rfl, rfl, .inl (.inl h1), rfl, _, _, rfl, rfl, _, rfl, ?_⟩
            refine ite2 (fun c => ?_) (fun c => ?_)
            · have c := of_decide_eq_true c
              refine iteT (bad ?_)
              rw [tp, if_neg fun z => by have := z.2.2.1; omega]
            · have c : ¬ ((val q : Nat) : Int) ≤ ((val p : Nat) : Int) := fun z => c (decide_eq_true z)
              refine ⟨_, rfl, _, rfl, m, _, -1, _, rfl, rfl, .inl (.inl h1), rfl, _, _, rfl, rfl, _, rfl, ?_⟩
              refine ite2 (fun c2 => bad ?_) (fun c2 => ?_)
              · have c2 := of_decide_eq_true c2
                rw [tp, if_neg fun z => by have := z.2.2.2; omega]
              · refine nx_of (good h1 rfl rfl rfl rfl ?_)
                have c2 : ¬ ((val q : Nat) : Int) > 4000 := fun z => c2 (decide_eq_true z)
                rw [tp, if_pos ⟨hc, hc2, by omega, by omega⟩]
          · have n2 : numI q = -1 := if_neg hc2
            rw [n2, inV_cons, neg_yes, Bool.true_or]
            refine iteT (iteT (bad ?_))
            rw [tp, if_neg fun z => hc2 z.2.1]
        · have n1 : numI p = -1 := if_neg hc
          rw [n1, inV_cons, neg_yes, Bool.true_or]
          refine iteT (iteT (bad ?_))
          rw [tp, if_neg fun z => hc z.1]
      | cons r s =>
        refine ⟨_, rfl, _, _, rfl, .inl ⟨_, .inl (.inl h1), rfl⟩, _, _, rfl, rfl, _, rfl, ?_⟩
        have len3 : (((p :: q :: r :: s).map fun l => V.int (numI l)).length : Int) > 2 := by
          rw [List.length_map]
          simp only [List.length_cons]
          omega
        rw [decide_eq_true len3]
        refine iteT (iteT (bad ?_))
        rw [hP] <;> rfl
    | _ => exact iteT ⟨by show 0 ≤ sizeLine; decide, fun p hp => q1 (fun t z => nomatch z) p _ hp (Same.new hp) upd_same⟩
end
end K02
namespace K02
open PySem PySem.Spec PyProof.Rows L2 Tc Evl TL
section
variable {P : Program} {w : World} {K : PySem.W.Frag} {mg : Str → Option Value} {base : Heap}
theorem sc_span : FnScope ["_law_jar_here", "_law_low"] ["_law_jar_here"] (defScope s_span) := ⟨rfl, rfl, rfl, by decide +kernel, rfl, by decide +kernel, by decide +kernel⟩
theorem g_span : ∀ x ∈ (["_law_draw", "_law_pick", "min"] : List Str), (defScope s_span).names.lookup x = some .globalImplicit := by decide +kernel
theorem jar_some {H : Hp} {a : Addr} (h : Jar H a) : ∃ o, H a = some o := by
  obtain ⟨d, x, c, h, _⟩ := h
  exact ⟨_, h⟩
theorem jar_same {H H' : Hp} {a : Addr} (h : Jar H a) (s : Same H H') : Jar H' a := by
  obtain ⟨d, x, c, h, r⟩ := h
  exact ⟨d, x, c, s _ _ h, r⟩
def spSpanOf : Sp := fun vs H Q _ => ∃ a : Addr, vs = [.ref a] ∧ Jar H a ∧ ∀ (lo hi : Int) (p : Addr) (H' : Hp), 0 ≤ lo → lo ≤ hi → hi ≤ 4000 → H p = none → Jar H' a → But a H H' → H' p = some (.tup [.int lo, .int hi]) → Q (.ref p) H'
theorem ok_span {f : Addr} {fd : FuncData} (F : Fun K "_law_span" "_law_span" s_span f fd) (h1 : mg "min" = none)
    (DD : Call P w K mg base CX0 1 "_law_draw" ["_law_jar_here", "_law_size"] spDraw) (DP : Call P w K mg base CX0 2 "_law_pick" ["_law_jar_here", "_law_menu"] spPick) :
    FnG P w K mg base CX0 3 f fd ["_law_jar_here"] spSpanOf := by
  refine Fun.okG F sc_span (fun vs H Q E h => ?_) (fun cdv A outer s H vs Q E hr hgd h => ?_)
  · obtain ⟨a, rfl, _⟩ := h
    rfl
  · obtain ⟨a, rfl, hj, hQ⟩ := h
    refine ⟨_, pss_cons (ps_set (i := 1) sc_span.nd rfl (.inl rfl) (pe_do DD (hr.mono (by decide)) hgd (g_span _ (.head _)) pass0 (pa_cons (pv 0) (pa_cons
        (pe_do DP hr hgd (g_span _ (.tail _ (.head _))) pass0 (pa_cons (pv 0) (pa_cons (pe_lst (pa_cons pe_int (pa_cons pe_int (pa_cons pe_int (pa_cons pe_int (pa_cons pe_int pa_nil)))))) pa_nil))) pa_nil))))
      (pss_one (ps_ret (pe_tup (pa_cons (pv 1) (pa_cons (pe_callB (call_min2 rfl) (g_span _ (.tail _ (.tail _ (.head _)))) h1 (by decide +kernel) (pa_cons pe_int (pa_cons
        (pe_op op_add (pv 1) (pe_do DD (hr.mono (by decide)) hgd (g_span _ (.head _)) pass0 (pa_cons (pv 0) (pa_cons
          (pe_do DP hr hgd (g_span _ (.tail _ (.head _))) pass0 (pa_cons (pv 0) (pa_cons (pe_lst (pa_cons pe_int (pa_cons pe_int (pa_cons pe_int (pa_cons pe_int (pa_cons pe_int pa_nil)))))) pa_nil))) pa_nil)))) pa_nil))) pa_nil))))), ?_⟩
    -- what is drawn
    have num : ∀ {v : V}, v ∈ [V.int 1, V.int 3, V.int 9, V.int 100, V.int 4001] ∨ v ∈ [V.int 1, V.int 2, V.int 9, V.int 100, V.int 4001] → ∃ k : Int, v = .int k ∧ 0 < k ∧ k ≤ 4001 := by
      intro v h
      simp only [List.mem_cons, List.not_mem_nil, or_false] at h
      rcases h with (rfl | rfl | rfl | rfl | rfl) | (rfl | rfl | rfl | rfl | rfl) <;> exact ⟨_, rfl, by decide, by decide⟩
    obtain ⟨o0, ho0⟩ := jar_some hj
    refine ⟨_, rfl, _, rfl, by show 5 ≤ sizeLine; decide, fun m1 hm1 => ?_⟩
    have s1 := Same.new (o := .lst [V.int 1, V.int 3, V.int 9, V.int 100, V.int 4001]) hm1
    refine ⟨a, m1, _, rfl, jar_same hj s1, upd_same, (ne_of_none ho0 hm1).symm, by decide, by decide, fun v H2 hv hj2 hb2 => ?_⟩
    obtain ⟨k, rfl, k0, k1⟩ := num (.inl hv)
    refine ⟨a, k, rfl, hj2, k0, by omega, fun lo H3 lo0 lo1 hj3 hb3 => ?_⟩
    have b3 : But a H H3 := ((But.refl a H).same s1).trans (hb2.trans hb3)
    obtain ⟨o3, ho3⟩ := jar_some hj3
    refine ⟨_, rfl, _, rfl, _, rfl, _, rfl, by show 5 ≤ sizeLine; decide, fun m2 hm2 => ?_⟩
    have s4 := Same.new (o := .lst [V.int 1, V.int 2, V.int 9, V.int 100, V.int 4001]) hm2
    refine ⟨a, m2, _, rfl, jar_same hj3 s4, upd_same, (ne_of_none ho3 hm2).symm, by decide, by decide, fun v H5 hv hj5 hb5 => ?_⟩
    obtain ⟨k2, rfl, k20, k21⟩ := num (.inr hv)
    refine ⟨a, k2, rfl, hj5, k20, by omega, fun dd H6 d0 d1 hj6 hb6 => ?_⟩
    have b6 : But a H H6 := (b3.same s4).trans (hb5.trans hb6)
    refine ⟨_, _, rfl, rfl, _, _, rfl, by show 2 ≤ sizeLine; decide, fun p hp => ?_⟩
    have hpa : p ≠ a := fun z => by
      obtain ⟨o, ho⟩ := jar_some hj6
      rw [z, ho] at hp
      cases hp
    have hp0 : H p = none := by
      cases q : H p with
      | none => rfl
      | some u =>
        rw [b6 p u q hpa] at hp
        cases hp
    obtain ⟨o6, ho6⟩ := jar_some hj6
    refine hQ lo _ p _ lo0 ?_ ?_ hp0 (jar_same hj6 (Same.new hp)) (b6.new ho6 hp) upd_same
    · split <;> omega
    · split <;> omega
end
end K02
/-! Data that repr shows, told by what bounds them. -/
namespace Tc
open PySem PySem.Spec PyProof.Rows L2
structure Fine (d : PyData) (n k : Nat) : Prop where
  lay : d.canLay0 = true
  sh : d.showable = true
  short : d.intsShort 13 = true
  wt : d.weight ≤ n
  dp : d.depth ≤ k
structure FineAll (ds : List PyData) (n k : Nat) : Prop where
  lay : PyData.canLayAll0 ds = true
  sh : PyData.showableAll ds = true
  short : PyData.intsShortAll 13 ds = true
  wt : PyData.weightAll ds ≤ n
  dp : PyData.depthAll ds ≤ k
theorem Fine.good {d : PyData} {n k : Nat} (f : Fine d n k) (hn : n ≤ 1000000) (hk : k ≤ 60) : Good d := by
  refine ⟨f.sh, Nat.le_trans f.dp (by omega), ?_⟩
  have l : PyData.layable0 d = true := by
    unfold PyData.layable0
    have h1 : decide (PyData.depth d ≤ 64) = true := decide_eq_true (Nat.le_trans f.dp (by omega))
    have h2 : decide (PyData.weight d ≤ 2 ^ 20) = true := decide_eq_true (Nat.le_trans f.wt (by omega))
    rw [f.lay, h1, h2]
    rfl
  exact Nat.le_trans (shown_le13 l f.short) (by decide)
theorem Fine.mono {d : PyData} {n k m l : Nat} (f : Fine d n k) (h1 : n ≤ m) (h2 : k ≤ l) : Fine d m l := ⟨f.lay, f.sh, f.short, Nat.le_trans f.wt h1, Nat.le_trans f.dp h2⟩
theorem Fine.non : Fine .none 0 0 := ⟨rfl, rfl, rfl, Nat.le_refl 0, Nat.le_refl 0⟩
theorem Fine.bl (b : Bool) : Fine (.bool b) 0 0 := ⟨rfl, rfl, rfl, Nat.le_refl 0, Nat.le_refl 0⟩
theorem Fine.str {x : Str} (h : x.cps.all (· < 0x110000) = true) : Fine (.str x) x.length 0 := ⟨h, rfl, rfl, Nat.le_refl _, Nat.le_refl 0⟩
theorem Fine.int {i : Int} (h0 : -1 ≤ i) (h1 : i ≤ 100000) : Fine (.int i) 18 0 := by
  have hb : i.natAbs < 2 ^ 17 := by omega
  have lg : i.natAbs.log2 < 17 := by
    by_cases e : i.natAbs = 0
    · rw [e]
      decide
    · exact (Nat.log2_lt e).mpr hb
  refine ⟨rfl, decide_eq_true (by omega), ?_, ?_, Nat.le_refl 0⟩
  · refine decide_eq_true ?_
    show (Str.ofString (toString i)).length ≤ 13
    by_cases z : i = -1
    · rw [z]
      decide
    · exact Nat.le_trans (PyProof.Rows.toString_length_le (by omega) (k := 6) (by decide) (by omega)) (by decide)
  · show (if i == 0 then 0 else i.natAbs.log2 + 1) ≤ 18
    split <;> omega
theorem FineAll.nil {k : Nat} : FineAll [] 0 k := ⟨rfl, rfl, rfl, Nat.le_refl 0, Nat.zero_le k⟩
theorem FineAll.cons {d : PyData} {ds : List PyData} {n m k l : Nat} (f : Fine d n l) (g : FineAll ds m k) (h : l ≤ k) : FineAll (d :: ds) (n + 1 + m) k := by
  refine ⟨?_, ?_, ?_, ?_, ?_⟩
  · show (d.canLay0 && PyData.canLayAll0 ds) = true
    rw [f.lay, g.lay] <;> rfl
  · show (d.showable && PyData.showableAll ds) = true
    rw [f.sh, g.sh] <;> rfl
  · show (d.intsShort 13 && PyData.intsShortAll 13 ds) = true
    rw [f.short, g.short] <;> rfl
  · show d.weight + 1 + PyData.weightAll ds ≤ _
    have := f.wt
    have := g.wt
    omega
  · show max d.depth (PyData.depthAll ds) ≤ k
    have := f.dp
    have := g.dp
    omega
theorem Fine.lst {ds : List PyData} {n k : Nat} (f : FineAll ds n k) : Fine (.list ds) n (k + 1) := ⟨f.lay, f.sh, f.short, f.wt, Nat.succ_le_succ f.dp⟩
theorem Fine.tup {ds : List PyData} {n k : Nat} (f : FineAll ds n k) : Fine (.tuple ds) n (k + 1) := ⟨f.lay, f.sh, f.short, f.wt, Nat.succ_le_succ f.dp⟩
end Tc
namespace K02
open PySem PySem.Spec PyProof.Rows L2 Tc Evl TL
/-- what the odd values are -/
def OddOk (d : PyData) : Prop := Fine d 100 5 ∨ d = .dict [] ∨ d = .tuple [.int 0, .int (10 ^ 59)]
section
variable {P : Program} {w : World} {K : PySem.W.Frag} {mg : Str → Option Value} {base : Heap}
theorem sc_odd : FnScope ["_law_jar_here", "_law_span_here", "_law_low", "_law_high", "_law_menu"] ["_law_jar_here", "_law_span_here"] (defScope s_odd) := ⟨rfl, rfl, rfl, by decide +kernel, rfl, by decide +kernel, by decide +kernel⟩
theorem g_odd : ∀ x ∈ (["_law_pick", "str"] : List Str), (defScope s_odd).names.lookup x = some .globalImplicit := by decide +kernel
/-- all but what stands at a -/
def hide (a : Addr) (H : Hp) : Hp := fun b => if b = a then none else H b
def spOdd : Sp := fun vs H Q _ => ∃ (a sp : Addr) (lo hi : Int), vs = [.ref a, .ref sp] ∧ Jar H a ∧ H sp = some (.tup [.int lo, .int hi]) ∧ 0 ≤ lo ∧ lo ≤ hi ∧ hi ≤ 4000 ∧
  ∀ (v : V) (d : PyData) (H' : Hp), Dv (hide a H') v d → OddOk d → Jar H' a → But a H H' → Q v H'
theorem hide_of {a p : Addr} {H : Hp} {o : HO} (h : H p = some o) (n : p ≠ a) : hide a H p = some o := (if_neg n).trans h
theorem hide_same {a : Addr} {H H' : Hp} (s : Same H H') : Same (hide a H) (hide a H') := fun b o h => by
  by_cases n : b = a
  · have z : hide a H b = none := if_pos n
    rw [z] at h
    cases h
  · have z : hide a H b = H b := if_neg n
    rw [z] at h
    exact hide_of (s b o h) n
theorem hide_but {a : Addr} {H H' : Hp} (h : But a H H') : Same (hide a H) H' := fun b o e => by
  by_cases n : b = a
  · have z : hide a H b = none := if_pos n
    rw [z] at e
    cases e
  · have z : hide a H b = H b := if_neg n
    rw [z] at e
    exact h b o e n
theorem txt_ok {i : Int} (h0 : 0 ≤ i) (h1 : i ≤ 100000) : (Str.ofString (toString i)).cps.all (· < 0x110000) = true := by
  rw [← Array.all_toList]
  refine List.all_eq_true.mpr fun c hc => ?_
  have e : tl (Str.ofString (toString ((i.toNat : Nat) : Int))) = numL i.toNat := tl_num i.toNat
  rw [Int.toNat_of_nonneg h0] at e
  have hc : c ∈ tl (Str.ofString (toString i)) := hc
  rw [e] at hc
  have := numL_digits _ c hc
  exact decide_eq_true (by omega)
theorem hide_but2 {a : Addr} {H H' : Hp} (h : But a H H') : Same (hide a H) (hide a H') := fun b o e => by
  by_cases n : b = a
  · have z : hide a H b = none := if_pos n
    rw [z] at e
    cases e
  · have z : hide a H b = H b := if_neg n
    rw [z] at e
    exact hide_of (h b o e n) n
theorem hide_in (a : Addr) (H : Hp) : Same (hide a H) H := fun b o e => by
  by_cases n : b = a
  · have z : hide a H b = none := if_pos n
    rw [z] at e
    cases e
  · have z : hide a H b = H b := if_neg n
    rw [z] at e
    exact e
theorem ok_odd {f : Addr} {fd : FuncData} (F : Fun K "_law_odd" "_law_odd" s_odd f fd) (h1 : mg "str" = none)
    (DP : Call P w K mg base CX0 2 "_law_pick" ["_law_jar_here", "_law_menu"] spPick) : FnG P w K mg base CX0 3 f fd ["_law_jar_here", "_law_span_here"] spOdd := by
  refine Fun.okG F sc_odd (fun vs H Q E h => ?_) (fun cdv A outer s H vs Q E hr hgd h => ?_)
  · obtain ⟨a, sp, lo, hi, rfl, _⟩ := h
    rfl
  · obtain ⟨a, sp, lo, hi, rfl, hj, hsp, h0, h01, h4, hQ⟩ := h
    refine ⟨_, pss_mid (ps_asg (pv 1) (pg_tup (by rfl) (pgs_cons (pg_name (i := 2) sc_odd.nd rfl (.inl rfl)) (pgs_cons (pg_name (i := 3) sc_odd.nd rfl (.inl rfl)) pgs_nil))))
      (pss_mid (ps_set (i := 4) sc_odd.nd rfl (.inl rfl) (pe_lst (pa_cons pe_non (pa_cons pe_int (pa_cons pe_bl (pa_cons pe_str (pa_cons (pe_tup pa_nil) (pa_cons (pe_tup (pa_cons (pv 2) pa_nil)) (pa_cons (pe_tup (pa_cons (pe_op op_add (pv 3) pe_int) (pa_cons (pv 2) pa_nil))) (pa_cons (pe_lst (pa_cons (pv 2) (pa_cons (pv 3) pa_nil))) (pa_cons (pe_tup (pa_cons (pv 2) (pa_cons (pv 3) (pa_cons (pv 3) pa_nil)))) (pa_cons (pe_tup (pa_cons (pe_un un_neg pe_int) (pa_cons (pv 3) pa_nil))) (pa_cons (pe_tup (pa_cons (pv 2) (pa_cons pe_int pa_nil))) pa_nil)))))))))))))
      (pss_mid (ps_set (i := 4) sc_odd.nd rfl (.inl rfl) (pe_op op_cat (pv 4) (pe_lst (pa_cons (pe_tup (pa_cons pe_bl (pa_cons (pv 3) pa_nil))) (pa_cons (pe_tup (pa_cons (pv 2) (pa_cons pe_bl pa_nil))) (pa_cons (pe_tup (pa_cons (pe_callTy call_str_int (g_odd _ (.tail _ (.head _))) h1 (by decide +kernel) (pa_cons (pv 2) pa_nil)) (pa_cons (pv 3) pa_nil))) (pa_cons pe_dnewK (pa_cons (pe_tup (pa_cons (pv 2) (pa_cons pe_non pa_nil))) (pa_cons (pe_tup (pa_cons (pe_tup (pa_cons (pv 2) (pa_cons (pv 3) pa_nil))) pa_nil)) (pa_cons (pe_tup (pa_cons pe_int (pa_cons (pe_op op_pow pe_int pe_int) pa_nil))) (pa_cons (pv 1) pa_nil)))))))))))
      (pss_one (ps_ret (pe_do DP hr hgd (g_odd _ (.head _)) pass0 (pa_cons (pv 0) (pa_cons (pv 4) pa_nil))))))), ?_⟩
    refine ⟨fun σ' H' => H' = H ∧ σ' = [some (.ref a), some (.ref sp), some (.int lo), some (.int hi), none], ⟨_, rfl, sp, _, rfl, .inl (.inl hsp), rfl, _, _, rfl, _, _, rfl, rfl, rfl, rfl⟩, ?_⟩
    rintro _ H ⟨rfl, rfl⟩
    obtain ⟨oj, hoj⟩ := jar_some hj
    have xsp : sp ≠ a := by
      obtain ⟨d, x, c, ha, _⟩ := hj
      intro z
      rw [z, ha] at hsp
      cases hsp
    have tx : (Str.ofString (toString lo)).length ≤ 4 := int_len h0 (by omega)
    refine ⟨fun σ' H' => ∃ (m : Addr) (l : List V), σ' = [some (.ref a), some (.ref sp), some (.int lo), some (.int hi), some (.ref m)] ∧ Same H H' ∧ H' m = some (.lst l) ∧ l.length = 11 ∧ ∀ v ∈ l, ∃ d, Dv (hide a H') v d ∧ OddOk d, ?_, ?_⟩
    · refine ⟨by show 0 ≤ sizeLine; decide, fun p1 hp1 => ?_⟩
      have xp1 : p1 ≠ a := (ne_of_none ((Same.refl _) _ _ hoj) hp1).symm
      have np1 := Same.new (o := .tup []) hp1
      have fp1 := Same.trans (Same.refl _) np1
      refine ⟨_, rfl, by show 1 ≤ sizeLine; decide, fun p2 hp2 => ?_⟩
      have xp2 : p2 ≠ a := (ne_of_none ((fp1) _ _ hoj) hp2).symm
      have np2 := Same.new (o := .tup [V.int lo]) hp2
      have fp2 := Same.trans (fp1) np2
      refine ⟨_, rfl, _, _, rfl, rfl, _, rfl, by show 2 ≤ sizeLine; decide, fun p3 hp3 => ?_⟩
      have xp3 : p3 ≠ a := (ne_of_none ((fp2) _ _ hoj) hp3).symm
      have np3 := Same.new (o := .tup [V.int (hi + 1), V.int lo]) hp3
      have fp3 := Same.trans (fp2) np3
      refine ⟨_, rfl, _, rfl, by show 2 ≤ sizeLine; decide, fun p4 hp4 => ?_⟩
      have xp4 : p4 ≠ a := (ne_of_none ((fp3) _ _ hoj) hp4).symm
      have np4 := Same.new (o := .lst [V.int lo, V.int hi]) hp4
      have fp4 := Same.trans (fp3) np4
      refine ⟨_, rfl, _, rfl, _, rfl, by show 3 ≤ sizeLine; decide, fun p5 hp5 => ?_⟩
      have xp5 : p5 ≠ a := (ne_of_none ((fp4) _ _ hoj) hp5).symm
      have np5 := Same.new (o := .tup [V.int lo, V.int hi, V.int hi]) hp5
      have fp5 := Same.trans (fp4) np5
      refine ⟨_, rfl, _, rfl, by show 2 ≤ sizeLine; decide, fun p6 hp6 => ?_⟩
      have xp6 : p6 ≠ a := (ne_of_none ((fp5) _ _ hoj) hp6).symm
      have np6 := Same.new (o := .tup [V.int (-1), V.int hi]) hp6
      have fp6 := Same.trans (fp5) np6
      refine ⟨_, rfl, by show 2 ≤ sizeLine; decide, fun p7 hp7 => ?_⟩
      have xp7 : p7 ≠ a := (ne_of_none ((fp6) _ _ hoj) hp7).symm
      have np7 := Same.new (o := .tup [V.int lo, V.int 4001]) hp7
      have fp7 := Same.trans (fp6) np7
      refine ⟨by show 11 ≤ sizeLine; decide, fun m hm => ?_⟩
      have nm := Same.new (o := .lst [V.non, V.int 7, V.bl true, V.str "3-8", V.ref p1, V.ref p2, V.ref p3, V.ref p4, V.ref p5, V.ref p6, V.ref p7]) hm
      have tp7 := nm
      have tp6 := np7.trans tp7
      have tp5 := np6.trans tp6
      have tp4 := np5.trans tp5
      have tp3 := np4.trans tp4
      have tp2 := np3.trans tp3
      have tp1 := np2.trans tp2
      refine ⟨m, _, rfl, np1.trans tp1, upd_same, rfl, fun v hv => ?_⟩
      simp only [List.mem_cons, List.not_mem_nil, or_false] at hv
      rcases hv with rfl | rfl | rfl | rfl | rfl | rfl | rfl | rfl | rfl | rfl | rfl
      · exact ⟨_, .non, .inl (Fine.non.mono (by decide) (by decide))⟩
      · exact ⟨_, .int _, .inl ((Fine.int (by decide) (by decide)).mono (by decide) (by decide))⟩
      · exact ⟨_, .bl _, .inl ((Fine.bl _).mono (by decide) (by decide))⟩
      · exact ⟨_, .str _, .inl ((Fine.str (by decide +kernel)).mono (by decide) (by decide))⟩
      · exact ⟨_, .tup (.inl (hide_of (tp1 _ _ upd_same) xp1)) .nil, .inl ((Fine.tup (FineAll.nil (k := 0))).mono (by decide) (by decide))⟩
      · exact ⟨_, .tup (.inl (hide_of (tp2 _ _ upd_same) xp2)) (.cons (.int _) .nil), .inl ((Fine.tup (FineAll.cons (l := 0) (Fine.int (by omega) (by omega)) (FineAll.nil (k := 0)) (Nat.zero_le _))).mono (by decide) (by decide))⟩
      · exact ⟨_, .tup (.inl (hide_of (tp3 _ _ upd_same) xp3)) (.cons (.int _) (.cons (.int _) .nil)), .inl ((Fine.tup (FineAll.cons (l := 0) (Fine.int (by omega) (by omega)) (FineAll.cons (l := 0) (Fine.int (by omega) (by omega)) (FineAll.nil (k := 0)) (Nat.zero_le _)) (Nat.zero_le _))).mono (by decide) (by decide))⟩
      · exact ⟨_, .lst (.inl (hide_of (tp4 _ _ upd_same) xp4)) (.cons (.int _) (.cons (.int _) .nil)), .inl ((Fine.lst (FineAll.cons (l := 0) (Fine.int (by omega) (by omega)) (FineAll.cons (l := 0) (Fine.int (by omega) (by omega)) (FineAll.nil (k := 0)) (Nat.zero_le _)) (Nat.zero_le _))).mono (by decide) (by decide))⟩
      · exact ⟨_, .tup (.inl (hide_of (tp5 _ _ upd_same) xp5)) (.cons (.int _) (.cons (.int _) (.cons (.int _) .nil))), .inl ((Fine.tup (FineAll.cons (l := 0) (Fine.int (by omega) (by omega)) (FineAll.cons (l := 0) (Fine.int (by omega) (by omega)) (FineAll.cons (l := 0) (Fine.int (by omega) (by omega)) (FineAll.nil (k := 0)) (Nat.zero_le _)) (Nat.zero_le _)) (Nat.zero_le _))).mono (by decide) (by decide))⟩
      · exact ⟨_, .tup (.inl (hide_of (tp6 _ _ upd_same) xp6)) (.cons (.int _) (.cons (.int _) .nil)), .inl ((Fine.tup (FineAll.cons (l := 0) (Fine.int (by omega) (by omega)) (FineAll.cons (l := 0) (Fine.int (by omega) (by omega)) (FineAll.nil (k := 0)) (Nat.zero_le _)) (Nat.zero_le _))).mono (by decide) (by decide))⟩
      · exact ⟨_, .tup (.inl (hide_of (tp7 _ _ upd_same) xp7)) (.cons (.int _) (.cons (.int _) .nil)), .inl ((Fine.tup (FineAll.cons (l := 0) (Fine.int (by omega) (by omega)) (FineAll.cons (l := 0) (Fine.int (by omega) (by omega)) (FineAll.nil (k := 0)) (Nat.zero_le _)) (Nat.zero_le _))).mono (by decide) (by decide))⟩
    rintro _ H1 ⟨m1, l1, rfl, s01, hm1, len1, ok1⟩
    refine ⟨fun σ' H' => ∃ (m : Addr) (l : List V), σ' = [some (.ref a), some (.ref sp), some (.int lo), some (.int hi), some (.ref m)] ∧ Same H1 H' ∧ H1 m = none ∧ H' m = some (.lst l) ∧ l.length = 19 ∧ ∀ v ∈ l, ∃ d, Dv (hide a H') v d ∧ OddOk d, ?_, ?_⟩
    · refine ⟨_, rfl, _, rfl, by show 2 ≤ sizeLine; decide, fun q1 hq1 => ?_⟩
      have xq1 : q1 ≠ a := (ne_of_none ((s01) _ _ hoj) hq1).symm
      have nq1 := Same.new (o := .tup [V.bl true, V.int hi]) hq1
      have fq1 := Same.trans (s01) nq1
      refine ⟨_, rfl, by show 2 ≤ sizeLine; decide, fun q2 hq2 => ?_⟩
      have xq2 : q2 ≠ a := (ne_of_none ((fq1) _ _ hoj) hq2).symm
      have nq2 := Same.new (o := .tup [V.int lo, V.bl true]) hq2
      have fq2 := Same.trans (fq1) nq2
      refine ⟨_, rfl, lo, rfl, log_ok (by omega) (by omega), _, rfl, by show 2 ≤ sizeLine; decide, fun q3 hq3 => ?_⟩
      have xq3 : q3 ≠ a := (ne_of_none ((fq2) _ _ hoj) hq3).symm
      have nq3 := Same.new (o := .tup [V.str (Str.ofString (toString lo)), V.int hi]) hq3
      have fq3 := Same.trans (fq2) nq3
      refine fun q4 hq4 => ?_
      have xq4 : q4 ≠ a := (ne_of_none ((fq3) _ _ hoj) hq4).symm
      have nq4 := Same.new (o := .dK []) hq4
      have fq4 := Same.trans (fq3) nq4
      refine ⟨_, rfl, by show 2 ≤ sizeLine; decide, fun q5 hq5 => ?_⟩
      have xq5 : q5 ≠ a := (ne_of_none ((fq4) _ _ hoj) hq5).symm
      have nq5 := Same.new (o := .tup [V.int lo, V.non]) hq5
      have fq5 := Same.trans (fq4) nq5
      refine ⟨_, rfl, _, rfl, by show 2 ≤ sizeLine; decide, fun q6 hq6 => ?_⟩
      have xq6 : q6 ≠ a := (ne_of_none ((fq5) _ _ hoj) hq6).symm
      have nq6 := Same.new (o := .tup [V.int lo, V.int hi]) hq6
      have fq6 := Same.trans (fq5) nq6
      refine ⟨by show 1 ≤ sizeLine; decide, fun q7 hq7 => ?_⟩
      have xq7 : q7 ≠ a := (ne_of_none ((fq6) _ _ hoj) hq7).symm
      have nq7 := Same.new (o := .tup [V.ref q6]) hq7
      have fq7 := Same.trans (fq6) nq7
      refine ⟨_, _, rfl, rfl, ⟨by decide, by decide, by decide⟩, by show 2 ≤ sizeLine; decide, fun q8 hq8 => ?_⟩
      have xq8 : q8 ≠ a := (ne_of_none ((fq7) _ _ hoj) hq8).symm
      have nq8 := Same.new (o := .tup [V.int 0, V.int (10 ^ 59)]) hq8
      have fq8 := Same.trans (fq7) nq8
      refine ⟨_, rfl, by show 8 ≤ sizeLine; decide, fun m2 hm2 => ?_⟩
      have nm2 := Same.new (o := .lst [V.ref q1, V.ref q2, V.ref q3, V.ref q4, V.ref q5, V.ref q7, V.ref q8, V.ref sp]) hm2
      have s12 := nq1.trans (nq2.trans (nq3.trans (nq4.trans (nq5.trans (nq6.trans (nq7.trans (nq8.trans (nm2))))))))
      refine ⟨m1, m2, _, _, rfl, rfl, s12 _ _ hm1, upd_same, by rw [len1]; show 19 ≤ sizeLine; decide, fun m hm => ?_⟩
      have nm := Same.new (o := .lst (l1 ++ [V.ref q1, V.ref q2, V.ref q3, V.ref q4, V.ref q5, V.ref q7, V.ref q8, V.ref sp])) hm
      have tq8 := nm2.trans nm
      have tq7 := nq8.trans tq8
      have tq6 := nq7.trans tq7
      have tq5 := nq6.trans tq6
      have tq4 := nq5.trans tq5
      have tq3 := nq4.trans tq4
      have tq2 := nq3.trans tq3
      have tq1 := nq2.trans tq2
      have sAll := nq1.trans tq1
      refine ⟨m, _, rfl, sAll, s12.free hm, upd_same, by rw [List.length_append, len1] <;> rfl, fun v hv => ?_⟩
      rcases List.mem_append.mp hv with hv | hv
      · obtain ⟨d, h1, h2⟩ := ok1 v hv
        exact ⟨d, h1.mono (hide_same sAll), h2⟩
      simp only [List.mem_cons, List.not_mem_nil, or_false] at hv
      rcases hv with rfl | rfl | rfl | rfl | rfl | rfl | rfl | rfl
      · exact ⟨_, .tup (.inl (hide_of (tq1 _ _ upd_same) xq1)) (.cons (.bl _) (.cons (.int _) .nil)), .inl ((Fine.tup (FineAll.cons (l := 0) (Fine.bl _) (FineAll.cons (l := 0) (Fine.int (by omega) (by omega)) (FineAll.nil (k := 0)) (Nat.zero_le _)) (Nat.zero_le _))).mono (by decide) (by decide))⟩
      · exact ⟨_, .tup (.inl (hide_of (tq2 _ _ upd_same) xq2)) (.cons (.int _) (.cons (.bl _) .nil)), .inl ((Fine.tup (FineAll.cons (l := 0) (Fine.int (by omega) (by omega)) (FineAll.cons (l := 0) (Fine.bl _) (FineAll.nil (k := 0)) (Nat.zero_le _)) (Nat.zero_le _))).mono (by decide) (by decide))⟩
      · exact ⟨_, .tup (.inl (hide_of (tq3 _ _ upd_same) xq3)) (.cons (.str _) (.cons (.int _) .nil)), .inl ((Fine.tup (FineAll.cons (l := 0) ((Fine.str (txt_ok h0 (by omega))).mono tx (Nat.le_refl 0)) (FineAll.cons (l := 0) (Fine.int (by omega) (by omega)) (FineAll.nil (k := 0)) (Nat.zero_le _)) (Nat.zero_le _))).mono (by decide) (by decide))⟩
      · exact ⟨_, .dct (.inl (hide_of (tq4 _ _ upd_same) xq4)) .nil, .inr (.inl rfl)⟩
      · exact ⟨_, .tup (.inl (hide_of (tq5 _ _ upd_same) xq5)) (.cons (.int _) (.cons .non .nil)), .inl ((Fine.tup (FineAll.cons (l := 0) (Fine.int (by omega) (by omega)) (FineAll.cons (l := 0) Fine.non (FineAll.nil (k := 0)) (Nat.zero_le _)) (Nat.zero_le _))).mono (by decide) (by decide))⟩
      · exact ⟨_, .tup (.inl (hide_of (tq7 _ _ upd_same) xq7)) (.cons (.tup (.inl (hide_of (tq6 _ _ upd_same) xq6)) (.cons (.int _) (.cons (.int _) .nil))) .nil), .inl ((Fine.tup (FineAll.cons (l := 1) (Fine.tup (FineAll.cons (l := 0) (Fine.int (by omega) (by omega)) (FineAll.cons (l := 0) (Fine.int (by omega) (by omega)) (FineAll.nil (k := 0)) (Nat.zero_le _)) (Nat.zero_le _))) (FineAll.nil (k := 1)) (by decide))).mono (by decide) (by decide))⟩
      · exact ⟨_, .tup (.inl (hide_of (tq8 _ _ upd_same) xq8)) (.cons (.int _) (.cons (.int _) .nil)), .inr (.inr rfl)⟩
      · exact ⟨_, .tup (.inl (hide_of (sAll _ _ (s01 _ _ hsp)) xsp)) (.cons (.int _) (.cons (.int _) .nil)), .inl ((Fine.tup (FineAll.cons (l := 0) (Fine.int (by omega) (by omega)) (FineAll.cons (l := 0) (Fine.int (by omega) (by omega)) (FineAll.nil (k := 0)) (Nat.zero_le _)) (Nat.zero_le _))).mono (by decide) (by decide))⟩
    rintro _ H2 ⟨m, l, rfl, s12, hm0, hm, len2, ok2⟩
    refine ⟨_, rfl, _, rfl, a, m, l, rfl, jar_same hj (s01.trans s12), hm, (ne_of_none (s01 _ _ hoj) hm0).symm, by omega, by omega, fun v H3 hv hj3 hb => ?_⟩
    obtain ⟨d, h1, h2⟩ := ok2 v hv
    exact hQ v d H3 (h1.mono (hide_but2 hb)) h2 hj3 (((But.refl a H).same (s01.trans s12)).trans hb)
end
end K02
/-! list of a text. -/
namespace Tc
open PySem PySem.Spec PyProof.Rows L2 TL
/-- list(z), z a text -/
def rListT : List V → Hp → VK → Prop := fun xs H Q => ∃ z : Str, xs = [.str z] ∧ z.length ≤ sizeLine ∧ ∀ p, H p = none → Q (.ref p) (upd H p (.lst ((tl z).map fun c => V.str ⟨#[c]⟩)))
theorem vals_of : ∀ {l : List Nat} {us : List Value}, us.length = l.length → (∀ (i c : Nat) (u : Value), l[i]? = some c → us[i]? = some u → ∃ t : Tok, u = Value.str ⟨#[c]⟩ t) → Vals (l.map fun c => V.str ⟨#[c]⟩) us
  | [], [], _, _ => .nil
  | c :: l, u :: us, h, k => .cons (k 0 c u rfl rfl) (vals_of (Nat.succ.inj h) fun i d v h1 h2 => k (i + 1) d v h1 h2)
theorem call_listT {X : Cx} (hc : X.calm = true) : CallR X (.type "list") rListT := by
  intro pins s σ H xs us Q I r h
  obtain ⟨z, rfl, hz, q⟩ := h
  obtain ⟨u, rfl, rx⟩ := vals1 r
  obtain ⟨t, rfl⟩ := rx
  refine call_list_str (I.ok.hd hc) z t (fun h' tk acc' c' kp e it => ?_) hz
  have hn : H s.heap.objs.size = none := I.hok.fresh (Nat.le_refl _)
  refine ⟨.ref s.heap.objs.size, _, I.laid (t' := tk) kp (Nat.le_refl _) (show ObjOk X.prog X.w _ h' _ (.lst ((tl z).map fun c => V.str ⟨#[c]⟩)) from ⟨?_, acc'.toList, c', ?_, e⟩), rfl, q _ hn⟩
  · rw [List.length_map, ← len_tl]
    exact hz
  · obtain ⟨i1, i2⟩ := it
    refine vals_of (by rw [Array.length_toList, i1]; rfl) fun i c v h1 h2 => ?_
    obtain ⟨d, t2, e1, e2⟩ := i2 i v (by rw [← h2]; exact Array.getElem?_toList.symm)
    have e3 : (tl z)[i]? = some d := by rw [← e1]; exact Array.getElem?_toList
    rw [h1] at e3
    cases e3
    exact ⟨t2, e2⟩
end Tc
namespace K02
open PySem PySem.Spec PyProof.Rows L2 Tc Evl TL
/-- a short text of plain signs -/
structure Tx (n : Nat) (t : Str) : Prop where
  len : t.length ≤ n
  sg : ∀ c ∈ tl t, c < 128
theorem Tx.mono {n m : Nat} {t : Str} (h : Tx n t) (k : n ≤ m) : Tx m t := ⟨Nat.le_trans h.len k, h.sg⟩
theorem Tx.app {n m : Nat} {a b : Str} (h : Tx n a) (g : Tx m b) : Tx (n + m) (a ++ b) := ⟨by rw [str_len_app]; exact Nat.add_le_add h.len g.len, fun c hc => by
  rw [tl_append] at hc
  exact (List.mem_append.mp hc).elim (h.sg c) (g.sg c)⟩
theorem Tx.cut {n : Nat} {t : Str} (h : Tx n t) (lo hi : Option Int) : Tx n (cutS t lo hi) := by
  rw [C8.cutS_slice]
  refine ⟨Nat.le_trans (Txt.slice_le t lo hi) h.len, fun c hc => ?_⟩
  unfold Txt.slice at hc
  split at hc
  · exact h.sg c hc
  · obtain ⟨i, _, hi⟩ := List.mem_filterMap.mp (show c ∈ List.filterMap (t.cps[·]?) _ by simpa [tl] using hc)
    refine h.sg c ?_
    have e : (tl t)[i]? = some c := by rw [← hi]; exact Array.getElem?_toList
    exact List.mem_of_getElem? e
theorem Tx.fine {n : Nat} {t : Str} (h : Tx n t) : Fine (.str t) n 0 := (Fine.str (by
  rw [← Array.all_toList]
  exact List.all_eq_true.mpr fun c hc => decide_eq_true (Nat.lt_trans (h.sg c hc) (by decide)))).mono h.len (Nat.le_refl 0)
/-- what a bent text is -/
def BentOk (d : PyData) : Prop := (∃ x, d = .str x ∧ Tx 60 x) ∨ ((∀ x, d ≠ .str x) ∧ Fine d 100 3)
section
variable {P : Program} {w : World} {K : PySem.W.Frag} {mg : Str → Option Value} {base : Heap}
theorem sc_bent : FnScope ["_law_jar_here", "_law_text", "_law_at", "_law_sign", "_law_some"] ["_law_jar_here", "_law_text"] (defScope s_bent) := ⟨rfl, rfl, rfl, by decide +kernel, rfl, by decide +kernel, by decide +kernel⟩
theorem g_bent : ∀ x ∈ (["_law_draw", "_law_pick", "len", "list"] : List Str), (defScope s_bent).names.lookup x = some .globalImplicit := by decide +kernel
def spBent : Sp := fun vs H Q _ => ∃ (a : Addr) (t : Str), vs = [.ref a, .str t] ∧ Jar H a ∧ Tx 9 t ∧ ∀ (v : V) (d : PyData) (H' : Hp), Dv H' v d → BentOk d → Jar H' a → But a H H' → Q v H'
theorem ok_bent {f : Addr} {fd : FuncData} (F : Fun K "_law_bent" "_law_bent" s_bent f fd) (B : Bl mg) (h1 : mg "list" = none)
    (DD : Call P w K mg base CX0 1 "_law_draw" ["_law_jar_here", "_law_size"] spDraw) (DP : Call P w K mg base CX0 2 "_law_pick" ["_law_jar_here", "_law_menu"] spPick) : FnG P w K mg base CX0 3 f fd ["_law_jar_here", "_law_text"] spBent := by
  refine Fun.okG F sc_bent (fun vs H Q E h => ?_) (fun cdv A outer s H vs Q E hr hgd h => ?_)
  · obtain ⟨a, t, rfl, _⟩ := h
    rfl
  · obtain ⟨a, t, rfl, hj, ht, hQ⟩ := h
    refine ⟨_, pss_mid (ps_par (by rfl) sc_bent.nd (i := 2) (j := 3) rfl rfl (by decide) rfl rfl (pa_cons (pe_do DD (hr.mono (by decide)) hgd (g_bent _ (.head _)) pass0 (pa_cons (pv 0) (pa_cons (pe_op op_add (pe_callB call_len (g_bent _ (.tail _ (.tail _ (.head _)))) B.len (by decide +kernel) (pa_cons (pv 1) pa_nil)) pe_int) pa_nil))) (pa_cons (pe_do DP hr hgd (g_bent _ (.tail _ (.head _))) pass0 (pa_cons (pv 0) (pa_cons (pe_callTy (call_listT rfl) (g_bent _ (.tail _ (.tail _ (.tail _ (.head _))))) h1 (by decide +kernel) (pa_cons pe_str pa_nil)) pa_nil))) pa_nil)) (by rfl))
      (pss_mid (ps_set (i := 4) sc_bent.nd rfl (.inl rfl) (pe_lst (pa_cons (pe_op op_add_str (pe_op op_add_str (pe_slice sl_str (pv 1) po_none (po_some (pv 2))) (pv 3)) (pe_slice sl_str (pv 1) (po_some (pv 2)) po_none)) (pa_cons (pe_op op_add_str (pe_slice sl_str (pv 1) po_none (po_some (pv 2))) (pe_slice sl_str (pv 1) (po_some (pe_op op_add (pv 2) pe_int)) po_none)) (pa_cons (pe_op op_add_str (pe_op op_add_str (pe_slice sl_str (pv 1) po_none (po_some (pv 2))) (pv 3)) (pe_slice sl_str (pv 1) (po_some (pe_op op_add (pv 2) pe_int)) po_none)) pa_nil)))))
      (pss_mid (ps_set (i := 4) sc_bent.nd rfl (.inl rfl) (pe_op op_cat (pe_op op_cat (pv 4) (pv 4)) (pe_lst (pa_cons (pe_op op_add_str (pe_op op_add_str (pv 1) pe_str) (pv 1)) pa_nil))))
      (pss_one (ps_ret (pe_do DP hr hgd (g_bent _ (.tail _ (.head _))) pass0 (pa_cons (pv 0) (pa_cons (pe_op op_cat (pv 4) (pe_lst (pa_cons (pv 1) (pa_cons (pe_op op_add_str (pv 1) pe_str) (pa_cons (pe_op op_add_str pe_str (pv 1)) (pa_cons pe_non (pa_cons pe_int (pa_cons (pe_tup (pa_cons (pv 1) pa_nil)) (pa_cons (pe_lst (pa_cons (pv 1) pa_nil)) (pa_cons pe_str (pa_cons (pe_op op_add_str pe_str (pv 1)) pa_nil))))))))))) pa_nil))))))), ?_⟩
    have hz : t.length ≤ sizeLine := Nat.le_trans ht.len (by decide)
    have low : ∀ c ∈ tl ("0123456789- +a\n." : Str), c < 128 := by decide +kernel
    have fit : ∀ {x y : Str} {n m : Nat}, Tx n x → Tx m y → n + m ≤ 100 → x.length + y.length ≤ sizeLine := fun hx hy h => Nat.le_trans (Nat.add_le_add hx.len hy.len) (Nat.le_trans h (by decide))
    have d1 : Tx 1 ("-" : Str) := ⟨by decide, by decide +kernel⟩
    have d2 : Tx 1 (" " : Str) := ⟨by decide, by decide +kernel⟩
    have d3 : Tx 1 ("0" : Str) := ⟨by decide, by decide +kernel⟩
    refine ⟨fun σ' H' => ∃ (r : Int) (sg : Str), σ' = [some (.ref a), some (.str t), some (.int r), some (.str sg), none] ∧ Tx 1 sg ∧ Jar H' a ∧ But a H H', ?_, ?_⟩
    · refine ⟨_, rfl, _, rfl, _, t.length, rfl, ⟨hz, rfl⟩, _, _, rfl, rfl, a, _, rfl, hj, by omega, by have := ht.len; omega, fun r H1 r0 r1 hj1 hb1 => ?_⟩
      refine ⟨_, rfl, _, rfl, by decide, fun m hm => ?_⟩
      obtain ⟨o1, ho1⟩ := jar_some hj1
      refine ⟨a, m, _, rfl, jar_same hj1 (Same.new hm), upd_same, (ne_of_none ho1 hm).symm, by decide, by decide, fun v H2 hv hj2 hb2 => ?_⟩
      obtain ⟨c, hc, rfl⟩ := List.mem_map.mp hv
      refine ⟨_, _, rfl, r, _, rfl, ⟨Nat.le_refl 1, fun d hd => ?_⟩, hj2, (hb1.same (Same.new hm)).trans hb2⟩
      rw [show d = c by simpa [tl] using hd]
      exact low c hc
    rintro _ H1 ⟨r, sg, rfl, hsg, hj1, hb1⟩
    obtain ⟨o1, ho1⟩ := jar_some hj1
    refine ⟨fun σ' H' => ∃ (m : Addr) (l : List V), σ' = [some (.ref a), some (.str t), some (.int r), some (.str sg), some (.ref m)] ∧ Same H1 H' ∧ m ≠ a ∧ H' m = some (.lst l) ∧ l.length = 3 ∧ ∀ v ∈ l, ∃ x, v = .str x ∧ Tx 19 x, ?_, ?_⟩
    · have p1 := ht.cut none (some r)
      have p2 := ht.cut (some r) none
      have p3 := ht.cut (some (r + 1)) none
      refine ⟨_, rfl, _, rfl, _, rfl, t, rfl, hz, _, rfl, _, _, rfl, rfl, fit p1 hsg (by decide), _, rfl, _, rfl, _, rfl, t, rfl, hz, _, _, rfl, rfl, fit (p1.app hsg) p2 (by decide), ?_⟩
      refine ⟨_, rfl, _, rfl, _, rfl, t, rfl, hz, _, rfl, _, rfl, _, _, rfl, rfl, _, rfl, t, rfl, hz, _, _, rfl, rfl, fit p1 p3 (by decide), ?_⟩
      refine ⟨_, rfl, _, rfl, _, rfl, t, rfl, hz, _, rfl, _, _, rfl, rfl, fit p1 hsg (by decide), _, rfl, _, rfl, _, _, rfl, rfl, _, rfl, t, rfl, hz, _, _, rfl, rfl, fit (p1.app hsg) p3 (by decide), by show 3 ≤ sizeLine; decide, fun m hm => ?_⟩
      refine ⟨m, _, rfl, Same.new hm, (ne_of_none ho1 hm).symm, upd_same, rfl, fun v hv => ?_⟩
      simp only [List.mem_cons, List.not_mem_nil, or_false] at hv
      rcases hv with rfl | rfl | rfl
      · exact ⟨_, rfl, ((p1.app hsg).app p2).mono (by decide)⟩
      · exact ⟨_, rfl, (p1.app p3).mono (by decide)⟩
      · exact ⟨_, rfl, ((p1.app hsg).app p3).mono (by decide)⟩
    rintro _ H2 ⟨m, l, rfl, s12, hma, hm, hl, ok⟩
    refine ⟨fun σ' H' => ∃ (m : Addr) (l : List V), σ' = [some (.ref a), some (.str t), some (.int r), some (.str sg), some (.ref m)] ∧ Same H2 H' ∧ H2 m = none ∧ H' m = some (.lst l) ∧ l.length = 7 ∧ ∀ v ∈ l, ∃ x, v = .str x ∧ Tx 19 x, ?_, ?_⟩
    · refine ⟨_, rfl, _, rfl, m, m, _, _, rfl, rfl, hm, hm, by rw [hl]; show 6 ≤ sizeLine; decide, fun m1 hm1 => ?_⟩
      refine ⟨_, rfl, _, _, rfl, rfl, fit ht d1 (by decide), _, rfl, _, _, rfl, rfl, fit (ht.app d1) ht (by decide), by show 1 ≤ sizeLine; decide, fun m2 hm2 => ?_⟩
      have n1 := Same.new (o := .lst (l ++ l)) hm1
      have n2 := Same.new (o := .lst [V.str ((t ++ "-") ++ t)]) hm2
      refine ⟨m1, m2, _, _, rfl, rfl, n2 _ _ upd_same, upd_same, by rw [List.length_append, hl]; show 7 ≤ sizeLine; decide, fun m3 hm3 => ?_⟩
      refine ⟨m3, _, rfl, n1.trans (n2.trans (Same.new hm3)), (n1.trans n2).free hm3, upd_same, by rw [List.length_append, List.length_append, hl] <;> rfl, fun v hv => ?_⟩
      rcases List.mem_append.mp hv with hv | hv
      · exact ok v ((List.mem_append.mp hv).elim id id)
      · rw [List.mem_singleton.mp hv]
        exact ⟨_, rfl, (ht.app d1).app ht⟩
    rintro _ H3 ⟨m3, l3, rfl, s23, hm30, hm3, hl3, ok3⟩
    refine ⟨_, rfl, _, rfl, _, rfl, _, rfl, _, _, rfl, rfl, fit ht d2 (by decide), _, rfl, _, _, rfl, rfl, fit d1 ht (by decide), _, rfl, by show 1 ≤ sizeLine; decide, fun u1 hu1 => ?_⟩
    refine ⟨_, rfl, by show 1 ≤ sizeLine; decide, fun u2 hu2 => ⟨_, rfl, _, _, rfl, rfl, fit d3 ht (by decide), by show 9 ≤ sizeLine; decide, fun m4 hm4 => ?_⟩⟩
    have s13 : Same H1 H3 := s12.trans s23
    have n1 := Same.new (o := .tup [V.str t]) hu1
    have n2 := Same.new (o := .lst [V.str t]) hu2
    have n3 := Same.new (o := .lst [V.str t, V.str (t ++ " "), V.str ("-" ++ t), V.non, V.int 5, V.ref u1, V.ref u2, V.str "", V.str ("0" ++ t)]) hm4
    have x1 : u1 ≠ a := (ne_of_none (s13 _ _ ho1) hu1).symm
    have x2 : u2 ≠ a := (ne_of_none ((s13.trans n1) _ _ ho1) hu2).symm
    have s16 := s13.trans (n1.trans (n2.trans n3))
    refine ⟨m3, m4, _, _, rfl, rfl, (n1.trans (n2.trans n3)) _ _ hm3, upd_same, by rw [hl3]; show 16 ≤ sizeLine; decide, fun m5 hm5 => ?_⟩
    have n4 := Same.new (o := .lst (l3 ++ [V.str t, V.str (t ++ " "), V.str ("-" ++ t), V.non, V.int 5, V.ref u1, V.ref u2, V.str "", V.str ("0" ++ t)])) hm5
    have len : (l3 ++ [V.str t, V.str (t ++ " "), V.str ("-" ++ t), V.non, V.int 5, V.ref u1, V.ref u2, V.str "", V.str ("0" ++ t)]).length = 16 := by rw [List.length_append, hl3] <;> rfl
    refine ⟨a, m5, _, rfl, jar_same hj1 (s16.trans n4), upd_same, (ne_of_none (s16 _ _ ho1) hm5).symm, by rw [len]; decide, by rw [len]; decide, fun v H' hv hj' hb' => ?_⟩
    have bt : But a H H' := (hb1.same (s16.trans n4)).trans hb'
    have str : ∀ {x : Str} {n : Nat}, v = .str x → Tx n x → n ≤ 60 → Q v H' := fun e hx hn => by
      subst e
      exact hQ _ _ H' (.str _) (.inl ⟨_, rfl, hx.mono hn⟩) hj' bt
    rcases List.mem_append.mp hv with hv | hv
    · obtain ⟨x, rfl, hx⟩ := ok3 v hv
      exact str rfl hx (by decide)
    simp only [List.mem_cons, List.not_mem_nil, or_false] at hv
    rcases hv with rfl | rfl | rfl | rfl | rfl | rfl | rfl | rfl | rfl
    · exact str rfl ht (by decide)
    · exact str rfl (ht.app d2) (by decide)
    · exact str rfl (d1.app ht) (by decide)
    · exact hQ _ _ H' .non (.inr ⟨(fun x z => nomatch z), Fine.non.mono (by decide) (by decide)⟩) hj' bt
    · exact hQ _ _ H' (.int _) (.inr ⟨(fun x z => nomatch z), (Fine.int (by decide) (by decide)).mono (by decide) (by decide)⟩) hj' bt
    · refine hQ _ _ H' (.tup (.inl (hide_but hb' _ _ (hide_of ((n2.trans (n3.trans n4)) _ _ upd_same) x1))) (.cons (.str t) .nil)) (.inr ⟨(fun x z => nomatch z), ?_⟩) hj' bt
      exact (Fine.tup (FineAll.cons (l := 0) ht.fine (FineAll.nil (k := 0)) (Nat.zero_le _))).mono (by decide) (by decide)
    · refine hQ _ _ H' (.lst (.inl (hide_but hb' _ _ (hide_of ((n3.trans n4) _ _ upd_same) x2))) (.cons (.str t) .nil)) (.inr ⟨(fun x z => nomatch z), ?_⟩) hj' bt
      exact (Fine.lst (FineAll.cons (l := 0) ht.fine (FineAll.nil (k := 0)) (Nat.zero_le _))).mono (by decide) (by decide)
    · exact str rfl (⟨by decide, by decide +kernel⟩ : Tx 0 "") (by decide)
    · exact str rfl (d3.app ht) (by decide)
end
end K02
/-! A def whose code object is known, for those that make lambdas. -/
namespace Tc
open PySem PySem.Spec PyProof.Rows L2
section
variable {P : Program} {w : World} {K : PySem.W.Frag} {mg : Str → Option Value} {base : Heap}
/-- as Fun.okG, its code object known -/
theorem Fun.okGC {CX : CXT} {x qual : Str} {st : Stmt} {f : Addr} {fd : FuncData} {N ps : List Str}
    {k : Nat} {sp : Sp} {c : Addr} (F : Fun K x qual st f fd) (hcode : fd.code = .ref c) (S : FnScope N ps (defScope st))
    (len : ∀ vs H Q E, sp vs H Q E → vs.length = ps.length)
    (hbody : ∀ (A : Around) (outer : List Env) (s : Shared) (H : Hp) (vs : List V)
      (Q : VK) (E : XK), Room k (A.deeper (envOfC qual (defScope st) s.heap.objs.size f (.ref c))) →
      (A.deeper (envOfC qual (defScope st) s.heap.objs.size f (.ref c))).guards = some [] →
      sp vs H Q E →
      ∃ t, PSs (cxOf CX P w K mg base N qual (defScope st) f (.ref c) A outer s H E) (defBody st) t ∧
        t { nx := fun _ H' => Q .non H', rt := Q } (start N vs) H) :
    FnG P w K mg base CX (k + 1) f fd ps sp := by
  obtain ⟨oc, od, kV, doc, pm, an, cdv, ct, osl, rfl, lk, hcd⟩ := F.ex
  have ec : cdv = .ref c := hcode
  subst ec
  refine ⟨len, ?_⟩
  intro A outer s H args us vs Q E hr hgd e0 hb r hsp
  have vl := len _ _ _ _ hsp
  have kin : K.In s.heap := e0.mod.kin.keeps (fun b o e => (e0.bs b o e).1)
  have nlim : s.heap.NoLimit := e0.mod.nolimit.keeps (fun b o e => (e0.bs b o e).1)
  have kinds : ∀ y ∈ ps.zip us, (defScope st).names.lookup y.1 = some .local ∨
      ((defScope st).names.lookup y.1 = some .cell ∧
        ((cellsFrom (s.heap.objs.size + 1) (defScope st).names []).lookup y.1).isSome = true) := by
    rintro ⟨n, v⟩ hy
    cases S.par n (List.of_mem_zip hy).1 with
    | inl q => exact .inl q
    | inr q => exact .inr ⟨q, PySem.W.cellsFrom_some _ _ _ (.inl q)⟩
  refine codeAny_call_function hr.depth (kin _ _ lk) rfl S.co S.gen rfl
    (PySem.W.codeRec_of kin hcd) (hb _ _ _ _ ?_)
  refine wpAny_newFunctionEnv_cells S.kind kinds (fun env he s1 x => ?_)
  subst he
  refine ⟨nlim.keeps x.toInCall.keep, codeAny_func ?_⟩
  obtain ⟨t, ht, hq⟩ := hbody A outer s H vs Q E (hr.deeper _) hgd hsp
  have I := inv_start (CX := CX) (P := P) (w := w) (mg := mg) (base := base) (E := E) S hr.hd e0 vl r x
  refine wpAny_mono (ht.run [] s1 (start N vs) H _ I hq) (fun fl s' hs => ?_) (fun e s' hs => hs)
  have close : ∀ {σ' : L2.St} {H' : Hp} {v : V} {u : Value},
      Inv (cxOf CX P w K mg base N qual (defScope st) f (.ref c) A outer s H E) [] σ' H' s' →
      RelV v u → Q v H' → CE outer P w H s Q u s' := by
    intro σ' H' v u J rv q
    exact ⟨v, H', J.os, J.bare, J.base, J.hok, rv, q⟩
  cases fl with
  | ret u => obtain ⟨v, σ', H', J, rv, q⟩ := hs; exact close J rv q
  | next => obtain ⟨σ', H', J, q⟩ := hs; exact close (v := V.non) (u := Value.none) J rfl q
  | brk => obtain ⟨_, _, _, q⟩ := hs; exact False.elim q
  | cont => obtain ⟨_, _, _, q⟩ := hs; exact False.elim q
end
end Tc
namespace K02
open PySem PySem.Spec PyProof.Rows L2 Tc Evl TL
open LamX (tLam LamS lamCx lamEnv Tabs TabB ExtN)
section
variable {X : Cx} {T : List (Addr × Str)} {g c P CS CT : Addr} {fd : FuncData} {k : Nat} {params : Arguments} {body : Expr} {scope : Scope} {t : XK → TE} {p lpos pos : Pos}
/-- _law_heard(lambda: body) -/
theorem pe_heard (F : Fun X.K "_law_heard" "_law_heard" s_heard g fd) (gm : X.mg "_law_heard" = some (.ref g)) (TH : Hx X.K X.mg CS CT) (hg : Gl X "_law_heard")
    (TB : TabB X.base X.mg c P) (hcode : X.env.code = .ref c) (hmT : (P, X.env.qual ++ "<lambda>") ∈ T) (hu : ∀ p ∈ T, p.1 = P → p.2 = X.env.qual ++ "<lambda>") (hr : Room (k + 2) X.A) (L : LamS X.env.scope scope) (hdef : defaultsOf params X.env = ([], []))
    (hbind : ∀ (q : Str) (cl : List (Str × Addr)) (pm cv ctv : Value), bindArgs (PySem.W.kla_fn "<lambda>" q params body scope cl pm cv ctv) ⟨[], []⟩ = pure [])
    (hbody : ∀ (A : Around) (outer : List Env) (s : Shared) (H : Hp) (E : XK) (f c' : Addr), Room k (A.deeper (lamEnv X scope s.heap.objs.size f c')) → PE (lamCx X A outer s H E scope f c') body (t E)) :
    PE X (.Call (.Name "_law_heard" p) [.Lambda params body scope lpos] [] pos) (tLam T (TTh CS CT) t) := by
  have kp := F.kp
  have hb : Binds X.K fd ["_law_act"] [] := F.binds fun _ _ _ _ _ _ us hl => match us, hl with | [_], _ => rfl
  obtain ⟨oc, od, kV, doc, pm, an, cdv, ct, osl, rfl, lk, hcd⟩ := F.ex
  exact LamX.pe_lamcall (Ng := ["_law_act", "e", "_law_sort"]) (a := "_law_act") hg gm kp lk hcd hb sc_heard rfl (.inl (by decide +kernel)) (heard_gives TH fun f => rfl) TB hcode hmT hu hr L hdef hbind hbody
end
end K02
namespace Tc
open PySem PySem.Spec PyProof.Rows L2
open LamX (Tabs TabS ExtN CodeO)
mutual
theorem Dv.ext {H H' : Hp} (s : ExtN H H') : ∀ {v : V} {d : PyData}, Dv H v d → Dv H' v d
  | _, _, .non => .non
  | _, _, .bl b => .bl b
  | _, _, .int i => .int i
  | _, _, .str x => .str x
  | _, _, .lst h a => .lst (h.elim (fun z => .inl (s _ _ z fun _ e => nomatch e)) fun ⟨o, z⟩ => .inr ⟨o, s _ _ z fun _ e => nomatch e⟩) (DvAll.ext s a)
  | _, _, .tup h a => .tup (h.elim (fun z => .inl (s _ _ z fun _ e => nomatch e)) fun ⟨o, z⟩ => .inr ⟨o, s _ _ z fun _ e => nomatch e⟩) (DvAll.ext s a)
  | _, _, .dct h a => .dct (h.elim (fun z => .inl (s _ _ z fun _ e => nomatch e)) fun ⟨o, z⟩ => .inr ⟨o, s _ _ z fun _ e => nomatch e⟩) (DvKv.ext s a)
theorem DvAll.ext {H H' : Hp} (s : ExtN H H') : ∀ {vs : List V} {ds : List PyData}, DvAll H vs ds → DvAll H' vs ds
  | _, _, .nil => .nil
  | _, _, .cons a b => .cons (Dv.ext s a) (DvAll.ext s b)
theorem DvKv.ext {H H' : Hp} (s : ExtN H H') : ∀ {kvs : List (Key × V)} {ds : List (PyData × PyData)}, DvKv H kvs ds → DvKv H' kvs ds
  | _, _, .nil => .nil
  | _, _, .cons a b => .cons (Dv.ext s a) (DvKv.ext s b)
end
/-- tables stay where all but a list stays -/
theorem tabs_keep {T : List (Addr × Str)} {H H' : Hp} {a : Addr} {l : List V} (h : Tabs T H) (ha : H a = some (.lst l)) (k : ∀ b o, H b = some o → b ≠ a → H' b = some o) : Tabs T H' := by
  intro p hp
  obtain ⟨ps, h1, h2, h3⟩ := h p hp
  refine ⟨ps, k _ _ h1 (fun z => ?_), h2, fun pos cv hc => ?_⟩
  · rw [z, ha] at h1
    cases h1
  · obtain ⟨c, e1, e2⟩ := h3 pos cv hc
    refine ⟨c, e1, k _ _ e2 fun z => ?_⟩
    rw [z, ha] at e2
    exact nomatch (show HO.lst l = HO.ext _ from Option.some.inj e2)
end Tc
namespace K02
open PySem PySem.Spec PyProof.Rows L2 Tc Evl TL
open LamX (tLam LamS lamCx lamEnv Tabs TabB ExtN)
/-- how the data is read -/
def rd : PyData → Option (Nat × Nat)
  | .str x => toldP (parts x)
  | _ => none
def dueD (d : PyData) : PyData := match rd d with
  | some (a, b) => .list [.str "told", .tuple [.int (a : Int), .int (b : Int)]]
  | none => .list [.str "text", d]
section
variable {K : PySem.W.Frag} {mg : Str → Option Value}
theorem heard_read {T : List (Addr × Str)} {CS CT : Addr} {σ : L2.St} {H : Hp} {v : V} {d : PyData} {i : Nat} {Q : VK} {t : XK → TE} (ht : ∀ E H' Q', (∃ x, σ[i]? = some (some x) ∧ spRead CT [x] H' Q' E) → t E σ H' Q') (ne : CS ≠ CT)
    (hv : σ[i]? = some (some v)) (hd : Dv H v d) (ok : BentOk d) (hT : Tabs T H) (q : ∀ p H', ExtN H H' → Tabs T H' → Dv H' (.ref p) (dueD d) → Q (.ref p) H') : tLam T (TTh CS CT) t σ H Q := by
  refine ⟨hT, fun H1 e1 t1 => ?_⟩
  have hd1 := hd.ext e1
  have fin : ∀ (p : Addr) (H2 : Hp), Same H1 H2 → Dv H2 (.ref p) (dueD d) → Q (.ref p) H2 := fun p H2 s h => q p H2 (e1.trans (ExtN.of s)) (t1.ext s) h
  have text : ∀ H2, Same H1 H2 → rd d = none → up CT v H2 (fun cls d' H' => ∃ (C dd : Addr) (v : V), cls = .ref C ∧ (C = CS ∨ C = CT) ∧ d' = some dd ∧ H' dd = some (.xd [("given", v)]) ∧ ∀ p H2, H' p = none → Same H' H2 → H2 p = some (.lst [.str (kindOf CS C), v]) → Q (.ref p) H2) := by
    intro H2 s e dd hdd
    refine ⟨CT, dd, v, rfl, .inr rfl, rfl, upd_same, fun p H3 hp s3 h3 => ?_⟩
    have s13 : Same H1 H3 := s.trans ((Same.new hdd).trans s3)
    refine fin p H3 s13 ?_
    unfold dueD
    rw [e]
    have kt : kindOf CS CT = "text" := if_neg fun z => ne z.symm
    rw [kt] at h3
    exact .lst (.inl h3) (.cons (.str _) (.cons (hd1.mono s13) .nil))
  refine ht _ H1 _ ⟨v, hv, v, d, rfl, hd1, fun h => text H1 (Same.refl _) (by cases d <;> first | rfl | exact absurd rfl (h _)), fun x hx => ?_⟩
  subst hx
  refine ⟨?_, fun h H2 s => text H2 s h, fun a b h p H2 hp s hq => ⟨by show 2 ≤ sizeLine; decide, fun p2 hp2 => ?_⟩⟩
  · rcases ok with ⟨y, e, ty⟩ | ⟨e, _⟩
    · cases e
      exact Nat.le_trans ty.len (by decide)
    · exact absurd rfl (e x)
  · have n2 := Same.new (o := .lst [V.str "told", V.ref p]) hp2
    refine fin p2 _ (s.trans n2) ?_
    have e : rd (.str x) = some (a, b) := h
    unfold dueD
    rw [e]
    exact .lst (.inl upd_same) (.cons (.str _) (.cons (.tup (.inl (n2 _ _ hq)) (.cons (.int _) (.cons (.int _) .nil))) .nil))
end
end K02
/-! Data and a list that changes. -/
namespace Tc
open PySem PySem.Spec PyProof.Rows L2
mutual
/-- data stay where only an object changes whose own data are deeper -/
theorem Dv.past {H H' : Hp} {g : Addr} {N : Nat} (hg : ∀ d, Dv H (.ref g) d → N < d.depth) (k : ∀ b o, H b = some o → b ≠ g → H' b = some o) : ∀ {v : V} {d : PyData}, Dv H v d → d.depth ≤ N → Dv H' v d
  | _, _, .non, _ => .non
  | _, _, .bl b, _ => .bl b
  | _, _, .int i, _ => .int i
  | _, _, .str x, _ => .str x
  | _, _, .lst (a := a) (ds := ds) h r, hd => by
    have n : a ≠ g := fun z => by
      have q := hg _ (by rw [← z]; exact .lst h r)
      omega
    have hd' : PyData.depthAll ds ≤ N := by
      have : PyData.depthAll ds + 1 ≤ N := hd
      omega
    exact .lst (h.elim (fun z => .inl (k _ _ z n)) fun ⟨o, z⟩ => .inr ⟨o, k _ _ z n⟩) (DvAll.past hg k r hd')
  | _, _, .tup (a := a) (ds := ds) h r, hd => by
    have n : a ≠ g := fun z => by
      have q := hg _ (by rw [← z]; exact .tup h r)
      omega
    have hd' : PyData.depthAll ds ≤ N := by
      have : PyData.depthAll ds + 1 ≤ N := hd
      omega
    exact .tup (h.elim (fun z => .inl (k _ _ z n)) fun ⟨o, z⟩ => .inr ⟨o, k _ _ z n⟩) (DvAll.past hg k r hd')
  | _, _, .dct (a := a) (ds := ds) h r, hd => by
    have n : a ≠ g := fun z => by
      have q := hg _ (by rw [← z]; exact .dct h r)
      omega
    have hd' : PyData.depthKv ds ≤ N := by
      have : PyData.depthKv ds + 1 ≤ N := hd
      omega
    exact .dct (h.elim (fun z => .inl (k _ _ z n)) fun ⟨o, z⟩ => .inr ⟨o, k _ _ z n⟩) (DvKv.past hg k r hd')
theorem DvAll.past {H H' : Hp} {g : Addr} {N : Nat} (hg : ∀ d, Dv H (.ref g) d → N < d.depth) (k : ∀ b o, H b = some o → b ≠ g → H' b = some o) : ∀ {vs : List V} {ds : List PyData}, DvAll H vs ds → PyData.depthAll ds ≤ N → DvAll H' vs ds
  | _, _, .nil, _ => .nil
  | _, _, .cons (d := d) (ds := ds) a b, hd => by
    have hd : max d.depth (PyData.depthAll ds) ≤ N := hd
    exact .cons (Dv.past hg k a (by omega)) (DvAll.past hg k b (by omega))
theorem DvKv.past {H H' : Hp} {g : Addr} {N : Nat} (hg : ∀ d, Dv H (.ref g) d → N < d.depth) (k : ∀ b o, H b = some o → b ≠ g → H' b = some o) : ∀ {kvs : List (Key × V)} {ds : List (PyData × PyData)}, DvKv H kvs ds → PyData.depthKv ds ≤ N → DvKv H' kvs ds
  | _, _, .nil, _ => .nil
  | _, _, .cons (k := kk) (d := d) (ds := ds) a b, hd => by
    have hd : max (max (kD kk).depth d.depth) (PyData.depthKv ds) ≤ N := hd
    exact .cons (Dv.past hg k a (by omega)) (DvKv.past hg k b (by omega))
end
theorem rd_one {H : Hp} {a : Addr} {u w : HO} (h : Rd H a u) (g : Rd H a w) (hu : ∀ o x, u ≠ .frz o x := by exact fun _ _ z => nomatch z) (hw : ∀ o x, w ≠ .frz o x := by exact fun _ _ z => nomatch z) : u = w := by
  rcases h with h | ⟨o, h⟩ <;> rcases g with g | ⟨o2, g⟩ <;> rw [h] at g <;> have e := Option.some.inj g
  · exact e
  · exact absurd e (hu _ _)
  · exact absurd e.symm (hw _ _)
  · cases e
    rfl
mutual
/-- a value is of one data alone -/
theorem Dv.one {H : Hp} : ∀ {v : V} {d e : PyData}, Dv H v d → Dv H v e → d = e
  | _, _, _, .non, h => by cases h; rfl
  | _, _, _, .bl b, h => by cases h; rfl
  | _, _, _, .int i, h => by cases h; rfl
  | _, _, _, .str x, h => by cases h; rfl
  | _, _, _, .lst h r, q => by
    cases q with
    | lst h2 r2 =>
      have e : HO.lst _ = HO.lst _ := rd_one h h2
      cases e
      rw [DvAll.one r r2]
    | tup h2 r2 => exact nomatch (show HO.lst _ = HO.tup _ from rd_one h h2)
    | dct h2 r2 => exact nomatch (show HO.lst _ = HO.dK _ from rd_one h h2)
  | _, _, _, .tup h r, q => by
    cases q with
    | tup h2 r2 =>
      have e : HO.tup _ = HO.tup _ := rd_one h h2
      cases e
      rw [DvAll.one r r2]
    | lst h2 r2 => exact nomatch (show HO.tup _ = HO.lst _ from rd_one h h2)
    | dct h2 r2 => exact nomatch (show HO.tup _ = HO.dK _ from rd_one h h2)
  | _, _, _, .dct h r, q => by
    cases q with
    | dct h2 r2 =>
      have e : HO.dK _ = HO.dK _ := rd_one h h2
      cases e
      rw [DvKv.one r r2]
    | tup h2 r2 => exact nomatch (show HO.dK _ = HO.tup _ from rd_one h h2)
    | lst h2 r2 => exact nomatch (show HO.dK _ = HO.lst _ from rd_one h h2)
theorem DvAll.one {H : Hp} : ∀ {vs : List V} {ds es : List PyData}, DvAll H vs ds → DvAll H vs es → ds = es
  | _, _, _, .nil, h => by cases h; rfl
  | _, _, _, .cons a b, h => by
    cases h with
    | cons a2 b2 => rw [Dv.one a a2, DvAll.one b b2]
theorem DvKv.one {H : Hp} : ∀ {kvs : List (Key × V)} {ds es : List (PyData × PyData)}, DvKv H kvs ds → DvKv H kvs es → ds = es
  | _, _, _, .nil, h => by cases h; rfl
  | _, _, _, .cons a b, h => by
    cases h with
    | cons a2 b2 => rw [Dv.one a a2, DvKv.one b b2]
end
end Tc
namespace K02
open PySem PySem.Spec PyProof.Rows L2 Tc Evl TL
open LamX (tLam LamS lamCx lamEnv Tabs TabB ExtN)
section
variable {P : Program} {w : World} {K : PySem.W.Frag} {mg : Str → Option Value} {base : Heap}
theorem sc_tr : FnScope ["_law_jar_here", "_law_span_here", "_law_word_here", "_law_turn", "_law_text", "_law_told_here", "_law_due", "_law_got"] ["_law_jar_here", "_law_span_here"] (defScope s_texts_right) := ⟨rfl, rfl, rfl, by decide +kernel, rfl, by decide +kernel, by decide +kernel⟩
theorem g_tr : ∀ x ∈ (["stretch_text", "_law_word", "repr", "range", "_law_bent", "_law_told", "_law_heard", "read_stretch"] : List Str), (defScope s_texts_right).names.lookup x = some .globalImplicit := by decide +kernel
def spTr (T : List (Addr × Str)) : Sp := fun vs H Q _ => ∃ (a sp : Addr) (lo hi : Int), vs = [.ref a, .ref sp] ∧ Jar H a ∧ H sp = some (.tup [.int lo, .int hi]) ∧ 0 ≤ lo ∧ lo ≤ hi ∧ hi ≤ 4000 ∧ Tabs T H ∧
  ∀ H' : Hp, Tabs T H' → Jar H' a → (∀ b o, H b = some o → b ≠ a → (∀ ps, o ≠ .tbl ps) → H' b = some o) → Q (.bl true) H'
theorem span_tx {lo hi : Int} (h0 : 0 ≤ lo) (h1 : lo ≤ hi) (h2 : hi ≤ 4000) : Tx 9 (spanText lo hi) := by
  have num : ∀ i : Int, 0 ≤ i → i ≤ 4000 → Tx 4 (Str.ofString (toString i)) := fun i a b => ⟨int_len a b, fun c hc => by
    have e : tl (Str.ofString (toString ((i.toNat : Nat) : Int))) = numL i.toNat := tl_num i.toNat
    rw [Int.toNat_of_nonneg a] at e
    rw [e] at hc
    have := numL_digits _ c hc
    omega⟩
  unfold spanText
  by_cases e : lo = hi
  · rw [if_pos e]
    exact (num lo h0 (by omega)).mono (by decide)
  · rw [if_neg e]
    exact ((num lo h0 (by omega)).app (⟨by decide, by decide +kernel⟩ : Tx 1 ("-" : Str))).app (num hi (by omega) h2)
theorem told_le {ps : List (List Nat)} {a b : Nat} (h : toldP ps = some (a, b)) : a ≤ 4000 ∧ b ≤ 4000 := by
  unfold toldP at h
  split at h
  · split at h
    · rename_i z
      cases h
      exact ⟨z.2, z.2⟩
    · cases h
  · split at h
    · rename_i z
      cases h
      exact ⟨by omega, z.2.2.2⟩
    · cases h
  · cases h
theorem due_fine {d : PyData} (h : BentOk d) : Fine (dueD d) 300 6 := by
  have fd : Fine d 100 3 := by
    rcases h with ⟨x, rfl, tx⟩ | ⟨_, f⟩
    · exact tx.fine.mono (by decide) (by decide)
    · exact f
  unfold dueD
  cases e : rd d with
  | none =>
    exact (Fine.lst (FineAll.cons (l := 0) (Fine.str (x := "text") (by decide +kernel)) (FineAll.cons (l := 3) fd (FineAll.nil (k := 3)) (Nat.le_refl 3)) (Nat.zero_le _))).mono (by decide) (by decide)
  | some p =>
    obtain ⟨a, b⟩ := p
    have le : a ≤ 4000 ∧ b ≤ 4000 := by
      unfold rd at e
      split at e
      · exact told_le e
      · cases e
    exact (Fine.lst (FineAll.cons (l := 0) (Fine.str (x := "told") (by decide +kernel)) (FineAll.cons (l := 1) (Fine.tup (FineAll.cons (l := 0) (Fine.int (by omega) (by omega)) (FineAll.cons (l := 0) (Fine.int (by omega) (by omega)) (FineAll.nil (k := 0)) (Nat.zero_le _)) (Nat.zero_le _))) (FineAll.nil (k := 1)) (Nat.le_refl 1)) (Nat.zero_le _))).mono (by decide) (by decide)
theorem span_true {lo hi : Int} (h0 : 0 ≤ lo) (h1 : lo ≤ hi) (h2 : hi ≤ 4000) : spanB (.tuple [.int lo, .int hi]) = true := by
  show (decide (0 ≤ lo) && (decide (lo ≤ hi) && decide (hi ≤ 4000))) = true
  rw [decide_eq_true h0, decide_eq_true h1, decide_eq_true h2] <;> rfl
def Kp (a : Addr) (H H' : Hp) : Prop := ∀ b o, H b = some o → b ≠ a → (∀ ps, o ≠ .tbl ps) → H' b = some o
theorem told_span {a b : Nat} (h : a ≤ b) (h4 : b ≤ 4000) : toldP (parts (spanText (a : Int) (b : Int))) = some (a, b) := by
  unfold parts
  rw [tl_span, spl_span]
  by_cases e : a = b
  · subst e
    rw [if_pos rfl]
    show (if canB (numL a) = true ∧ val (numL a) ≤ 4000 then some (val (numL a), val (numL a)) else none) = _
    rw [show val (numL a) = a from numL_val a, if_pos ⟨num_can a, h4⟩]
  · rw [if_neg e]
    show (if canB (numL a) = true ∧ canB (numL b) = true ∧ val (numL a) < val (numL b) ∧ val (numL b) ≤ 4000 then some (val (numL a), val (numL b)) else none) = _
    rw [show val (numL a) = a from numL_val a, show val (numL b) = b from numL_val b, if_pos ⟨num_can a, num_can b, by omega, h4⟩]
theorem Kp.same {a : Addr} {H H1 H2 : Hp} (k : Kp a H H1) (s : Same H1 H2) : Kp a H H2 := fun b o e n z => s _ _ (k b o e n z)
theorem Kp.but {a : Addr} {H H1 H2 : Hp} (k : Kp a H H1) (s : But a H1 H2) : Kp a H H2 := fun b o e n z => s _ _ (k b o e n z) n
theorem Kp.ext {a : Addr} {H H1 H2 : Hp} (k : Kp a H H1) (s : ExtN H1 H2) : Kp a H H2 := fun b o e n z => s _ _ (k b o e n z) z
theorem Kp.refl (a : Addr) (H : Hp) : Kp a H H := fun b o e n z => e
theorem jar_ext {H H' : Hp} {a : Addr} (h : Jar H a) (s : ExtN H H') : Jar H' a := by
  obtain ⟨d, x, c, h, r⟩ := h
  exact ⟨d, x, c, s _ _ h (fun _ z => nomatch z), r⟩
theorem tabs_but {T : List (Addr × Str)} {H H' : Hp} {a : Addr} (h : Tabs T H) (j : Jar H a) (k : But a H H') : Tabs T H' := by
  obtain ⟨d, x, c, e, _⟩ := j
  exact tabs_keep h e k
theorem ok_tr {f c Pt g CS CT : Addr} {fd fdH : FuncData} {T : List (Addr × Str)} (F : Fun K "_law_texts_right" "_law_texts_right" s_texts_right f fd) (hcode : fd.code = .ref c) (B : Bl mg) (SM : ∃ o, K.lookup sysModules = some o)
    (FH : Fun K "_law_heard" "_law_heard" s_heard g fdH) (gH : mg "_law_heard" = some (.ref g)) (TH : Hx K mg CS CT) (TB : TabB base mg c Pt)
    (hmT : (Pt, (envOfC "_law_texts_right" (defScope s_texts_right) 0 f (.ref c)).qual ++ "<lambda>") ∈ T) (hu : ∀ p ∈ T, p.1 = Pt → p.2 = (envOfC "_law_texts_right" (defScope s_texts_right) 0 f (.ref c)).qual ++ "<lambda>")
    (DW : CallO P w K mg base CX0 1 "_law_word" ["_law_span_here"] spText) (DS : CallO P w K mg base (L2.CX P w) 4 "stretch_text" ["stretch"] (spSText CS)) (DSK : CallK P w K mg base (L2.CX P w) 4 "stretch_text" ["stretch"] (spSText CS) ["stretch"] (fun l => l))
    (DBT : Call P w K mg base CX0 3 "_law_bent" ["_law_jar_here", "_law_text"] spBent) (DT : CallO P w K mg base CX0 2 "_law_told" ["_law_text"] spTold)
    (DR : CallO P w K mg base (L2.CX P w) 5 "read_stretch" ["text"] (spRead CT)) (DRK : CallK P w K mg base (L2.CX P w) 5 "read_stretch" ["text"] (spRead CT) ["text"] (fun l => l)) :
    FnG P w K mg base CX0 8 f fd ["_law_jar_here", "_law_span_here"] (spTr T) := by
  refine Fun.okGC F hcode sc_tr (fun vs H Q E h => ?_) (fun A outer s H vs Q E hr hgd h => ?_)
  · obtain ⟨a, sp, lo, hi, rfl, _⟩ := h
    rfl
  · obtain ⟨a, sp, lo, hi, rfl, hj, hsp, h0, h01, h4, hT, hQ⟩ := h
    have hu8 : (A.deeper (envOfC "_law_texts_right" (defScope s_texts_right) s.heap.objs.size f (.ref c))).units + 64 < cLine := hr.units
    have lenS : ∀ us vs H Q E, spSText CS vs H Q E → Vals vs us → us.length = 1 ∧ us.length = 1 := fun us vs H Q E h r => by
      obtain ⟨v, d, rfl, _⟩ := h
      exact ⟨r.length.symm, r.length.symm⟩
    have lenR : ∀ us vs H Q E, spRead CT vs H Q E → Vals vs us → us.length = 1 ∧ us.length = 1 := fun us vs H Q E h r => by
      obtain ⟨v, d, rfl, _⟩ := h
      exact ⟨r.length.symm, r.length.symm⟩
    refine ⟨_, (pss_mid (ps_set (i := 2) sc_tr.nd rfl (.inl rfl) (pe_doO DW (hr.mono (by decide)) (g_tr _ (.tail _ (.head _))) pass0 (pa_cons (pv 1) pa_nil)))
      (pss_mid (ps_if (pt_cmpR op_ne (pe_callB (call_repr hr hgd SM) (g_tr _ (.tail _ (.tail _ (.head _)))) B.repr (by decide +kernel) (pa_cons (pe_lst (pa_cons (pe_doO DS (hr.mono (by decide)) (g_tr _ (.head _)) passL (pa_cons (pv 1) pa_nil)) (pa_cons (pe_doK DSK (hr.mono (by decide)) (g_tr _ (.head _)) passL (pk_cons (pv 1) pk_nil) (hlen := lenS)) pa_nil))) pa_nil)) (pe_callB (call_repr hr hgd SM) (g_tr _ (.tail _ (.tail _ (.head _)))) B.repr (by decide +kernel) (pa_cons (pe_lst (pa_cons (pv 2) (pa_cons (pv 2) pa_nil))) pa_nil)) (nomark _)) (pss_one (ps_ret pe_bl)) pss_nil)
      (pss_mid (ps_for PassesOwn.leaving rfl (pi_range1 (g_tr _ (.tail _ (.tail _ (.tail _ (.head _))))) B.range (pa_cons pe_int pa_nil)) (pg_name (i := 3) sc_tr.nd rfl (.inl rfl)) (pss_mid (ps_set (i := 4) sc_tr.nd rfl (.inr rfl) (pe_do DBT (hr.mono (by decide)) hgd (g_tr _ (.tail _ (.tail _ (.tail _ (.tail _ (.head _)))))) pass0 (pa_cons (pv 0) (pa_cons (pv 2) pa_nil)))) (pss_mid (ps_set (i := 5) sc_tr.nd rfl (.inl rfl) (pe_doO DT (hr.mono (by decide)) (g_tr _ (.tail _ (.tail _ (.tail _ (.tail _ (.tail _ (.head _))))))) pass0 (pa_cons (pv 4) pa_nil))) (pss_mid (ps_set (i := 6) sc_tr.nd rfl (.inl rfl) (pe_ifExp (pt_cmpR (op_neD hu8) (pv 5) (pe_lst pa_nil) (nomark _)) (pe_lst (pa_cons pe_str (pa_cons (pe_ix ix_list (pv 5) pe_int (fun _ _ => rfl)) pa_nil))) (pe_lst (pa_cons pe_str (pa_cons (pv 4) pa_nil))))) (pss_mid (ps_set (i := 7) sc_tr.nd rfl (.inl rfl) (pe_lst (pa_cons (pe_heard (k := 5) (t := fun E2 => tCall (spRead CT) [] E2 (tCons (tVar 4) tNil)) FH gH TH (g_tr _ (.tail _ (.tail _ (.tail _ (.tail _ (.tail _ (.tail _ (.head _)))))))) TB rfl hmT hu (hr.mono (by decide)) (LamX.lamS_by (sc := defScope s_texts_right) (by decide +kernel)) rfl (fun _ _ _ _ _ => rfl) (fun A2 outer2 s2 H2 E2 f2 c2 hr2 => pe_doO DR (hr2.mono (by decide)) (by rfl) (passes_call (takes_of rfl rfl rfl rfl) fun _ _ _ _ h => h) (pa_cons (pv 4) pa_nil))) pa_nil))) (pss_mid (ps_expr (pe_bm PySem.F.plainAttrs_list PySem.F.slot_list_append PySem.F.type_list_append mt_append (pv 7) (pa_cons (pe_heard (k := 5) (t := fun E2 => tCallK (spRead CT) (fun l => l) E2 (tCons (tVar 4) tNil)) FH gH TH (g_tr _ (.tail _ (.tail _ (.tail _ (.tail _ (.tail _ (.tail _ (.head _)))))))) TB rfl hmT hu (hr.mono (by decide)) (LamX.lamS_by (sc := defScope s_texts_right) (by decide +kernel)) rfl (fun _ _ _ _ _ => rfl) (fun A2 outer2 s2 H2 E2 f2 c2 hr2 => pe_doK DRK (hr2.mono (by decide)) (by rfl) (passes_call (takes_of rfl rfl rfl rfl) fun _ _ _ _ h => h) (pk_cons (pv 4) pk_nil) (hlen := lenR))) pa_nil))) (pss_one (ps_if (pt_cmpR op_ne (pe_callB (call_repr hr hgd SM) (g_tr _ (.tail _ (.tail _ (.head _)))) B.repr (by decide +kernel) (pa_cons (pv 7) pa_nil)) (pe_callB (call_repr hr hgd SM) (g_tr _ (.tail _ (.tail _ (.head _)))) B.repr (by decide +kernel) (pa_cons (pe_lst (pa_cons (pv 6) (pa_cons (pv 6) pa_nil))) pa_nil)) (nomark _)) (pss_one (ps_ret pe_bl)) pss_nil))))))))
      (pss_one (ps_ret (pe_cmpR (op_eqD hu8) (pe_doO DR (hr.mono (by decide)) (g_tr _ (.tail _ (.tail _ (.tail _ (.tail _ (.tail _ (.tail _ (.tail _ (.head _))))))))) passL (pa_cons (pv 2) pa_nil)) (pv 1) (nomark _))))))), ?_⟩
    -- the word
    refine ⟨fun σ' H' => H' = H ∧ σ' = [some (.ref a), some (.ref sp), some (.str (spanText lo hi)), none, none, none, none, none], ⟨_, rfl, .ref sp, lo, hi, rfl, .tup (.inl hsp) (.cons (.int _) (.cons (.int _) .nil)), h0, h01, h4, rfl, rfl⟩, ?_⟩
    rintro _ H ⟨rfl, rfl⟩
    have tx := span_tx h0 h01 h4
    have st := span_true h0 h01 h4
    generalize ht : spanText lo hi = t at tx
    have dsp : ∀ {H' : Hp}, Same H H' → Dv H' (.ref sp) (.tuple [.int lo, .int hi]) := fun s => .tup (.inl (s _ _ hsp)) (.cons (.int _) (.cons (.int _) .nil))
    refine ⟨fun σ' H' => Same H H' ∧ σ' = [some (.ref a), some (.ref sp), some (.str t), none, none, none, none, none], ?_, ?_⟩
    · have good : Good (.list [.str t, .str t]) := (Fine.lst (FineAll.cons (l := 0) tx.fine (FineAll.cons (l := 0) tx.fine (FineAll.nil (k := 0)) (Nat.zero_le _)) (Nat.zero_le _))).good (by decide) (by decide)
      refine ⟨_, rfl, .ref sp, _, rfl, dsp (Same.refl H), fun a' b' e _ _ _ => ?_, fun z => absurd (z.symm.trans st) (by decide)⟩
      cases e
      refine ⟨_, rfl, .ref sp, _, rfl, dsp (Same.refl H), fun a' b' e _ _ _ => ?_, fun z => absurd (z.symm.trans st) (by decide)⟩
      cases e
      rw [ht]
      refine ⟨by show 2 ≤ sizeLine; decide, fun p1 hp1 => ?_⟩
      refine ⟨.ref p1, _, rfl, .lst (.inl upd_same) (.cons (.str _) (.cons (.str _) .nil)), good.1, good.2.1, good.2.2, _, rfl, _, rfl, by show 2 ≤ sizeLine; decide, fun p2 hp2 => ?_⟩
      refine ⟨.ref p2, _, rfl, .lst (.inl upd_same) (.cons (.str _) (.cons (.str _) .nil)), good.1, good.2.1, good.2.2, rfl, _, rfl, ?_⟩
      refine ite2 (fun c => ?_) (fun _ => ⟨(Same.new hp1).trans (Same.new hp2), rfl⟩)
      simp at c
    rintro _ H1 ⟨s1, rfl⟩
    have j1 : Jar H1 a := jar_same hj s1
    have t1 : Tabs T H1 := hT.ext s1
    refine ⟨fun σ' H' => (Tabs T H' ∧ Jar H' a ∧ Kp a H H') ∧ ∃ x3 x4 x5 x6 x7, σ' = [some (.ref a), some (.ref sp), some (.str t), x3, x4, x5, x6, x7], ?_, ?_⟩
    · refine s_forR1 (n := 6) (ea_cons ev_c ea_nil) (by decide) (fun _ σ' H' => (Tabs T H' ∧ Jar H' a ∧ Kp a H H') ∧ ∃ x3 x4 x5 x6 x7, σ' = [some (.ref a), some (.ref sp), some (.str t), x3, x4, x5, x6, x7])
        (fun H2 e => ⟨⟨t1.ext e, jar_same j1 e, ((Kp.refl a H).same s1).same e⟩, none, none, none, none, none, rfl⟩) ?_ (fun σ' H' p => p)
      rintro i _ H2 hi ⟨⟨t2, j2, k2⟩, x3, x4, x5, x6, x7, rfl⟩
      -- what is asked
      refine ⟨fun σ' H' => (Tabs T H' ∧ Jar H' a ∧ Kp a H H') ∧ ∃ v d, σ' = [some (.ref a), some (.ref sp), some (.str t), some (.int (i : Int)), some v, x5, x6, x7] ∧ Dv H' v d ∧ BentOk d, ?_, ?_⟩
      · refine ⟨_, rfl, _, rfl, a, t, rfl, j2, tx, fun v d H3 hv ok j3 b3 => ?_⟩
        exact ⟨⟨tabs_but t2 j2 b3, j3, k2.but b3⟩, v, d, rfl, hv, ok⟩
      rintro _ H3 ⟨⟨t3, j3, k3⟩, v, d, rfl, hv, ok⟩
      -- how it is read
      refine ⟨fun σ' H' => ∃ p, σ' = [some (.ref a), some (.ref sp), some (.str t), some (.int (i : Int)), some v, some (.ref p), x6, x7] ∧ Same H3 H' ∧ ((rd d = none ∧ H' p = some (.lst [])) ∨ ∃ (x y : Nat) (u : Addr), rd d = some (x, y) ∧ H' p = some (.lst [.ref u]) ∧ H' u = some (.tup [.int (x : Int), .int (y : Int)])), ?_, ?_⟩
      · refine ⟨_, rfl, v, d, rfl, hv, fun h p H4 hp s h4 => ⟨p, rfl, s, .inl ⟨?_, h4⟩⟩, fun z hz => ?_⟩
        · cases d <;> first | rfl | exact absurd rfl (h _)
        subst hz
        have tz : Tx 60 z := by
          rcases ok with ⟨y, e, ty⟩ | ⟨e, _⟩
          · cases e
            exact ty
          · exact absurd rfl (e z)
        exact ⟨Nat.le_trans tz.len (by decide), tz.sg, fun h p H4 hp s h4 => ⟨p, rfl, s, .inl ⟨h, h4⟩⟩, fun x y h p u H4 hp s h4 hu => ⟨p, rfl, s, .inr ⟨x, y, u, h, h4, hu⟩⟩⟩
      rintro _ H4 ⟨p, rfl, s4, told⟩
      have t4 := t3.ext s4
      have j4 := jar_same j3 s4
      have k4 := k3.same s4
      have hv4 := hv.mono s4
      -- what is due
      refine ⟨fun σ' H' => ∃ q, σ' = [some (.ref a), some (.ref sp), some (.str t), some (.int (i : Int)), some v, some (.ref p), some (.ref q), x7] ∧ Same H4 H' ∧ Dv H' (.ref q) (dueD d), ?_, ?_⟩
      · refine ⟨_, rfl, by show 0 ≤ sizeLine; decide, fun e he => ?_⟩
        have s5 := Same.new (o := .lst []) he
        rcases told with ⟨r0, h4p⟩ | ⟨x, y, u, r0, h4p, hu⟩
        · refine ⟨.list [], .list [], .lst (.inl (.inl (s5 _ _ h4p))) .nil, .lst (.inl (.inl upd_same)) .nil, by decide, by decide, _, rfl, iteF ?_⟩
          refine ⟨_, rfl, by show 2 ≤ sizeLine; decide, fun q hq => ⟨q, rfl, s5.trans (Same.new hq), ?_⟩⟩
          unfold dueD
          rw [r0]
          exact .lst (.inl upd_same) (.cons (.str _) (.cons ((hv4.mono s5).mono (Same.new hq)) .nil))
        · refine ⟨.list [.tuple [.int x, .int y]], .list [], .lst (.inl (.inl (s5 _ _ h4p))) (.cons (.tup (.inl (.inl (s5 _ _ hu))) (.cons (.int _) (.cons (.int _) .nil))) .nil), .lst (.inl (.inl upd_same)) .nil, rfl, by decide, _, rfl, iteT ?_⟩
          refine ⟨_, rfl, p, _, _, _, rfl, rfl, .inl (.inl (s5 _ _ h4p)), rfl, by show 2 ≤ sizeLine; decide, fun q hq => ⟨q, rfl, s5.trans (Same.new hq), ?_⟩⟩
          unfold dueD
          rw [r0]
          exact .lst (.inl upd_same) (.cons (.str _) (.cons (.tup (.inl ((s5.trans (Same.new hq)) _ _ hu)) (.cons (.int _) (.cons (.int _) .nil))) .nil))
      rintro _ H5 ⟨q, rfl, s5, hq⟩
      have t5 := t4.ext s5
      have j5 := jar_same j4 s5
      have k5 := k4.same s5
      have hv5 := hv4.mono s5
      -- what is got
      refine ⟨fun σ' H' => (Tabs T H' ∧ Jar H' a ∧ Kp a H H') ∧ ∃ g g1, σ' = [some (.ref a), some (.ref sp), some (.str t), some (.int (i : Int)), some v, some (.ref p), some (.ref q), some (.ref g)] ∧ (∀ o, H g = some o → g ≠ a → (∀ ps, o ≠ .tbl ps) → False) ∧ H' g = some (.lst [.ref g1]) ∧ Dv H' (.ref g1) (dueD d) ∧ Dv H' (.ref q) (dueD d) ∧ Dv H' v d, ?_, ?_⟩
      · refine heard_read (i := 4) (v := v) (d := d) (fun E H' Q' h => ?_) TH.ne rfl hv5 ok t5 (fun g1 H' e t' dg1 => ?_)
        · obtain ⟨x, hx, h⟩ := h
          cases hx
          exact ⟨_, rfl, h⟩
        refine ⟨by show 1 ≤ sizeLine; decide, fun g hg => ?_⟩
        have n := Same.new (o := .lst [V.ref g1]) hg
        exact ⟨⟨t'.ext n, jar_same (jar_ext j5 e) n, (k5.ext e).same n⟩, g, g1, rfl, (fun o z n1 n2 => nomatch (((k5.ext e) g o z n1 n2).symm.trans hg)), upd_same, dg1.mono n, (hq.ext e).mono n, (hv5.ext e).mono n⟩
      rintro _ H6 ⟨⟨t6, j6, k6⟩, g, g1, rfl, fr, hg, hg1, hq6, hv6⟩
      -- once more
      refine ⟨fun σ' H' => (Tabs T H' ∧ Jar H' a ∧ Kp a H H') ∧ σ' = [some (.ref a), some (.ref sp), some (.str t), some (.int (i : Int)), some v, some (.ref p), some (.ref q), some (.ref g)] ∧ Dv H' (.ref g) (.list [dueD d, dueD d]) ∧ Dv H' (.ref q) (dueD d), ?_, ?_⟩
      · refine ⟨_, rfl, .inl ⟨rfl, _, .inl (.inl hg)⟩, ?_⟩
        refine heard_read (i := 4) (v := v) (d := d) (fun E H' Q' h => ?_) TH.ne rfl hv6 ok t6 (fun g2 H' e t' dg2 => ?_)
        · obtain ⟨x, hx, h⟩ := h
          cases hx
          exact ⟨_, rfl, h⟩
        have hg' : H' g = some (.lst [.ref g1]) := e _ _ hg (fun _ z => nomatch z)
        have gd : Dv H' (.ref g) (.list [dueD d]) := .lst (.inl hg') (.cons (hg1.ext e) .nil)
        have deep : ∀ d', Dv H' (.ref g) d' → (dueD d).depth < d'.depth := fun d' h => by
          rw [← Dv.one gd h]
          show (dueD d).depth < max (dueD d).depth 0 + 1
          omega
        have kk : ∀ b o, H' b = some o → b ≠ g → upd H' g (.lst [.ref g1, .ref g2]) b = some o := fun b o z n => (upd_ne n).trans z
        have ga : g ≠ a := fun z => by
          obtain ⟨_, _, _, ja, _⟩ := jar_ext j6 e
          rw [← z, hg'] at ja
          cases ja
        refine ⟨g, _, _, rfl, rfl, hg', by show 1 < sizeLine; decide, ⟨tabs_keep t' hg' kk, ?_, ?_⟩, rfl, ?_, ?_⟩
        · obtain ⟨d', x', c', ja, r⟩ := jar_ext j6 e
          exact ⟨d', x', c', kk _ _ ja ga.symm, r⟩
        · exact fun b o z n1 n2 => kk _ _ ((k6.ext e) b o z n1 n2) (fun zb => fr o (by rw [← zb]; exact z) (by rw [← zb]; exact n1) n2)
        · exact .lst (.inl upd_same) (.cons ((hg1.ext e).past deep kk (Nat.le_refl _)) (.cons (dg2.past deep kk (Nat.le_refl _)) .nil))
        · exact (hq6.ext e).past deep kk (Nat.le_refl _)
      rintro _ H7 ⟨⟨t7, j7, k7⟩, rfl, hg7, hq7⟩
      -- both told
      have fine := due_fine ok
      have good : Good (.list [dueD d, dueD d]) := (Fine.lst (FineAll.cons (l := 6) fine (FineAll.cons (l := 6) fine (FineAll.nil (k := 6)) (Nat.le_refl 6)) (Nat.le_refl 6))).good (by decide) (by decide)
      refine ⟨_, rfl, .ref g, _, rfl, hg7, good.1, good.2.1, good.2.2, _, rfl, _, rfl, by show 2 ≤ sizeLine; decide, fun p2 hp2 => ?_⟩
      have n := Same.new (o := .lst [V.ref q, V.ref q]) hp2
      refine ⟨.ref p2, _, rfl, .lst (.inl upd_same) (.cons (hq7.mono n) (.cons (hq7.mono n) .nil)), good.1, good.2.1, good.2.2, rfl, _, rfl, ?_⟩
      refine ite2 (fun c => ?_) (fun _ => ⟨⟨t7.ext n, jar_same j7 n, k7.same n⟩, _, _, _, _, _, rfl⟩)
      simp at c
    rintro _ H2 ⟨⟨t2, j2, k2⟩, x3, x4, x5, x6, x7, rfl⟩
    have sa : sp ≠ a := fun z => by
      obtain ⟨_, _, _, ja, _⟩ := hj
      rw [← z, hsp] at ja
      cases ja
    have hsp2 := k2 _ _ hsp sa (fun _ z => nomatch z)
    have told : toldP (parts t) = some (lo.toNat, hi.toNat) := by
      rw [← ht, show lo = ((lo.toNat : Nat) : Int) from (Int.toNat_of_nonneg h0).symm, show hi = ((hi.toNat : Nat) : Int) from (Int.toNat_of_nonneg (by omega)).symm]
      exact told_span (by omega) (by omega)
    refine ⟨_, rfl, .str t, .str t, rfl, .str t, fun z => absurd rfl (z t), fun x hx => ?_⟩
    cases hx
    refine ⟨Nat.le_trans tx.len (by decide), (fun z => by rw [told] at z; cases z), fun x y z p H3 hp s3 h3 => ?_⟩
    rw [told] at z
    cases z
    refine ⟨_, rfl, .tuple [.int lo, .int hi], .tuple [.int lo, .int hi], .tup (.inl (.inl ?_)) (.cons (.int _) (.cons (.int _) .nil)), .tup (.inl (.inl (s3 _ _ hsp2))) (.cons (.int _) (.cons (.int _) .nil)), rfl, rfl, ?_⟩
    · rw [h3, Int.toNat_of_nonneg h0, Int.toNat_of_nonneg (by omega)]
    · have e : PyData.eqv (.tuple [.int lo, .int hi]) (.tuple [.int lo, .int hi]) = true := by
        show (lo == lo && (hi == hi && true)) = true
        simp
      rw [e]
      exact hQ _ (t2.ext s3) (jar_same j2 s3) (k2.same s3)
end
end K02
namespace K02
open PySem PySem.Spec PyProof.Rows L2 Tc Evl TL
open LamX (tLam LamS lamCx lamEnv Tabs TabB ExtN)
/-- what is due of both -/
def bothD : PyData → PyData → PyData
  | .tuple [.int a1, .int b1], .tuple [.int a2, .int b2] => if hiI a1 a2 > loI b1 b2 then .list [.str "told", .none] else .list [.str "told", .tuple [.int (hiI a1 a2), .int (loI b1 b2)]]
  | _, _ => .none
def dueB (d1 d2 : PyData) : PyData := if spanB d1 = false then .list [.str "stretch", d1] else if spanB d2 = false then .list [.str "stretch", d2] else bothD d1 d2
theorem heard_both {T : List (Addr × Str)} {CS CT : Addr} {σ : L2.St} {H : Hp} {v1 v2 : V} {d1 d2 : PyData} {Q : VK} {t : XK → TE} (ht : ∀ E H' Q', spBoth CS [v1, v2] H' Q' E → t E σ H' Q')
    (h1 : Dv H v1 d1) (h2 : Dv H v2 d2) (hT : Tabs T H) (q : ∀ p H', ExtN H H' → Tabs T H' → Dv H' (.ref p) (dueB d1 d2) → Q (.ref p) H') : tLam T (TTh CS CT) t σ H Q := by
  refine ⟨hT, fun H1 e1 t1 => ?_⟩
  have hd1 := h1.ext e1
  have hd2 := h2.ext e1
  have fin : ∀ (p : Addr) (H2 : Hp), Same H1 H2 → Dv H2 (.ref p) (dueB d1 d2) → Q (.ref p) H2 := fun p H2 s h => q p H2 (e1.trans (ExtN.of s)) (t1.ext s) h
  have no : ∀ (v : V) (d : PyData), Dv H1 v d → dueB d1 d2 = .list [.str "stretch", d] → up CS v H1 (fun cls d' H' => ∃ (C dd : Addr) (v : V), cls = .ref C ∧ (C = CS ∨ C = CT) ∧ d' = some dd ∧ H' dd = some (.xd [("given", v)]) ∧ ∀ p H2, H' p = none → Same H' H2 → H2 p = some (.lst [.str (kindOf CS C), v]) → Q (.ref p) H2) := by
    intro v d hv e dd hdd
    refine ⟨CS, dd, v, rfl, .inl rfl, rfl, upd_same, fun p H3 hp s3 h3 => ?_⟩
    have s13 : Same H1 H3 := (Same.new hdd).trans s3
    refine fin p H3 s13 ?_
    rw [e]
    have kt : kindOf CS CS = "stretch" := if_pos rfl
    rw [kt] at h3
    exact .lst (.inl h3) (.cons (.str _) (.cons (hv.mono s13) .nil))
  refine ht _ H1 _ ⟨v1, v2, d1, d2, rfl, hd1, hd2, fun e => no v1 d1 hd1 (if_pos e), fun e e2 => no v2 d2 hd2 ?_, fun a1 b1 a2 b2 z1 z2 e1' e2' => ⟨fun c => ⟨by show 2 ≤ sizeLine; decide, fun p hp => ?_⟩, fun c p hp => ⟨by show 2 ≤ sizeLine; decide, fun p2 hp2 => ?_⟩⟩⟩
  · show (if spanB d1 = false then _ else if spanB d2 = false then _ else _) = _
    rw [e, if_neg (by decide), if_pos e2]
  · have e : dueB d1 d2 = .list [.str "told", .none] := by
      unfold dueB
      rw [e1', e2', if_neg (by decide), if_neg (by decide), z1, z2]
      exact if_pos c
    refine fin p _ (Same.new hp) ?_
    rw [e]
    exact .lst (.inl upd_same) (.cons (.str _) (.cons .non .nil))
  · have e : dueB d1 d2 = .list [.str "told", .tuple [.int (hiI a1 a2), .int (loI b1 b2)]] := by
      unfold dueB
      rw [e1', e2', if_neg (by decide), if_neg (by decide), z1, z2]
      exact if_neg c
    have n2 := Same.new (o := .lst [V.str "told", V.ref p]) hp2
    refine fin p2 _ ((Same.new hp).trans n2) ?_
    rw [e]
    exact .lst (.inl upd_same) (.cons (.str _) (.cons (.tup (.inl (n2 _ _ upd_same)) (.cons (.int _) (.cons (.int _) .nil))) .nil))
theorem odd_good {d : PyData} (h : OddOk d) : Good (.list [.list [.str "stretch", d], .list [.str "stretch", d]]) := by
  rcases h with f | rfl | rfl
  · have g : Fine (.list [.str "stretch", d]) 200 6 := (Fine.lst (FineAll.cons (l := 0) (Fine.str (x := "stretch") (by decide +kernel)) (FineAll.cons (l := 5) f (FineAll.nil (k := 5)) (Nat.le_refl 5)) (Nat.zero_le _))).mono (by decide) (by decide)
    exact (Fine.lst (FineAll.cons (l := 6) g (FineAll.cons (l := 6) g (FineAll.nil (k := 6)) (Nat.le_refl 6)) (Nat.le_refl 6))).good (by decide) (by decide)
  · decide +kernel
  · decide +kernel
theorem due_good {d1 d2 : PyData} (h1 : OddOk d1) (h2 : OddOk d2) : Good (.list [dueB d1 d2, dueB d1 d2]) := by
  unfold dueB
  by_cases c1 : spanB d1 = false
  · rw [if_pos c1]
    exact odd_good h1
  rw [if_neg c1]
  by_cases c2 : spanB d2 = false
  · rw [if_pos c2]
    exact odd_good h2
  rw [if_neg c2]
  obtain ⟨a1, b1, rfl, p1, p2, p3⟩ := span_ends (by simpa using c1)
  obtain ⟨a2, b2, rfl, q1, q2, q3⟩ := span_ends (by simpa using c2)
  have hi : 0 ≤ hiI a1 a2 ∧ hiI a1 a2 ≤ 4000 := by unfold hiI; split <;> omega
  have lo : 0 ≤ loI b1 b2 ∧ loI b1 b2 ≤ 4000 := by unfold loI; split <;> omega
  have two : ∀ e : PyData, Fine e 100 3 → Good (.list [.list [.str "told", e], .list [.str "told", e]]) := fun e f => by
    have g : Fine (.list [.str "told", e]) 200 4 := (Fine.lst (FineAll.cons (l := 0) (Fine.str (x := "told") (by decide +kernel)) (FineAll.cons (l := 3) f (FineAll.nil (k := 3)) (Nat.le_refl 3)) (Nat.zero_le _))).mono (by decide) (by decide)
    exact (Fine.lst (FineAll.cons (l := 4) g (FineAll.cons (l := 4) g (FineAll.nil (k := 4)) (Nat.le_refl 4)) (Nat.le_refl 4))).good (by decide) (by decide)
  by_cases c : hiI a1 a2 > loI b1 b2
  · have e : bothD (.tuple [.int a1, .int b1]) (.tuple [.int a2, .int b2]) = .list [.str "told", .none] := if_pos c
    rw [e]
    exact two _ (Fine.non.mono (by decide) (by decide))
  · have e : bothD (.tuple [.int a1, .int b1]) (.tuple [.int a2, .int b2]) = .list [.str "told", .tuple [.int (hiI a1 a2), .int (loI b1 b2)]] := if_neg c
    rw [e]
    exact two _ ((Fine.tup (FineAll.cons (l := 0) (Fine.int (by omega) (by omega)) (FineAll.cons (l := 0) (Fine.int (by omega) (by omega)) (FineAll.nil (k := 0)) (Nat.zero_le _)) (Nat.zero_le _))).mono (by decide) (by decide))
section
variable {P : Program} {w : World} {K : PySem.W.Frag} {mg : Str → Option Value} {base : Heap}
/-- what the loop has told -/
def stepB (v1 v2 : V) (b1 b2 : Bool) : Nat → Str × V
  | 0 => ("told", .non)
  | 1 => if b2 = false then ("stretch", v2) else ("told", .non)
  | _ => if b1 = false then ("stretch", v1) else if b2 = false then ("stretch", v2) else ("told", .non)
theorem sc_br : FnScope ["_law_one", "_law_other", "_law_due", "_law_value", "_law_got"] ["_law_one", "_law_other"] (defScope s_both_right) := ⟨rfl, rfl, rfl, by decide +kernel, rfl, by decide +kernel, by decide +kernel⟩
theorem g_br : ∀ x ∈ (["_law_is_span", "max", "min", "_law_heard", "repr"] : List Str), (defScope s_both_right).names.lookup x = some .globalImplicit := by decide +kernel
def spBr (T : List (Addr × Str)) : Sp := fun vs H Q _ => ∃ (v1 v2 : V) (d1 d2 : PyData), vs = [v1, v2] ∧ Dv H v1 d1 ∧ Dv H v2 d2 ∧ OddOk d1 ∧ OddOk d2 ∧ Tabs T H ∧ ∀ H' : Hp, ExtN H H' → Tabs T H' → Q (.bl true) H'
theorem ok_br {f c Pt g CS CT : Addr} {fd fdH : FuncData} {T : List (Addr × Str)} (F : Fun K "_law_both_right" "_law_both_right" s_both_right f fd) (hcode : fd.code = .ref c) (B : Bl mg) (hmax : mg "max" = none) (hmin : mg "min" = none) (SM : ∃ o, K.lookup sysModules = some o)
    (FH : Fun K "_law_heard" "_law_heard" s_heard g fdH) (gH : mg "_law_heard" = some (.ref g)) (TH : Hx K mg CS CT) (TB : TabB base mg c Pt)
    (hmT : (Pt, (envOfC "_law_both_right" (defScope s_both_right) 0 f (.ref c)).qual ++ "<lambda>") ∈ T) (hu : ∀ p ∈ T, p.1 = Pt → p.2 = (envOfC "_law_both_right" (defScope s_both_right) 0 f (.ref c)).qual ++ "<lambda>")
    (DI : CallO P w K mg base CX0 2 "_law_is_span" ["_law_value"] spSpan) (DB : CallO P w K mg base (L2.CX P w) 4 "in_both" ["stretch", "other_stretch"] (spBoth CS))
    (DBK : CallK P w K mg base (L2.CX P w) 4 "in_both" ["stretch", "other_stretch"] (spBoth CS) ["other_stretch", "stretch"] List.reverse) :
    FnG P w K mg base CX0 8 f fd ["_law_one", "_law_other"] (spBr T) := by
  refine Fun.okGC F hcode sc_br (fun vs H Q E h => ?_) (fun A outer s H vs Q E hr hgd h => ?_)
  · obtain ⟨v1, v2, d1, d2, rfl, _⟩ := h
    rfl
  · obtain ⟨v1, v2, d1, d2, rfl, hd1, hd2, o1, o2, hT, hQ⟩ := h
    have lenB : ∀ us vs H Q E, spBoth CS (List.reverse vs) H Q E → Vals vs us → us.length = 2 ∧ (List.reverse us).length = 2 := fun us vs H Q E h r => by
      obtain ⟨v1, v2, d1, d2, e, _⟩ := h
      have z : vs.length = 2 := by rw [← List.length_reverse, e] <;> rfl
      exact ⟨r.length.symm.trans z, by rw [List.length_reverse]; exact r.length.symm.trans z⟩
    refine ⟨_, (pss_mid (ps_set (i := 2) sc_br.nd rfl (.inl rfl) (pe_lst (pa_cons pe_str (pa_cons pe_non pa_nil))))
      (pss_mid (ps_for PassesOwn.leaving rfl (pi_list (pe_lst (pa_cons (pv 1) (pa_cons (pv 0) pa_nil)))) (pg_name (i := 3) sc_br.nd rfl (.inl rfl)) (pss_one (ps_if (pt_not (pt_val (pe_doO DI (hr.mono (by decide)) (g_br _ (.head _)) pass0 (pa_cons (pv 3) pa_nil)))) (pss_one (ps_set (i := 2) sc_br.nd rfl (.inl rfl) (pe_lst (pa_cons pe_str (pa_cons (pv 3) pa_nil))))) pss_nil)))
      (pss_mid (ps_if (PW.pt (pw_and (pt_cmpR op_eq (pe_ix ix_list (pv 2) pe_int (fun _ _ => rfl)) pe_str (nomark _)) (pw_and1 (pt_cmpR op_le (pe_callB (call_max2 rfl) (g_br _ (.tail _ (.head _))) hmax (by decide +kernel) (pa_cons (pe_ix ix_tup (pv 0) pe_int (fun _ _ => rfl)) (pa_cons (pe_ix ix_tup (pv 1) pe_int (fun _ _ => rfl)) pa_nil))) (pe_callB (call_min2 rfl) (g_br _ (.tail _ (.tail _ (.head _)))) hmin (by decide +kernel) (pa_cons (pe_ix ix_tup (pv 0) pe_int (fun _ _ => rfl)) (pa_cons (pe_ix ix_tup (pv 1) pe_int (fun _ _ => rfl)) pa_nil))) (nomark _))))) (pss_one (ps_set (i := 2) sc_br.nd rfl (.inl rfl) (pe_lst (pa_cons pe_str (pa_cons (pe_tup (pa_cons (pe_callB (call_max2 rfl) (g_br _ (.tail _ (.head _))) hmax (by decide +kernel) (pa_cons (pe_ix ix_tup (pv 0) pe_int (fun _ _ => rfl)) (pa_cons (pe_ix ix_tup (pv 1) pe_int (fun _ _ => rfl)) pa_nil))) (pa_cons (pe_callB (call_min2 rfl) (g_br _ (.tail _ (.tail _ (.head _)))) hmin (by decide +kernel) (pa_cons (pe_ix ix_tup (pv 0) pe_int (fun _ _ => rfl)) (pa_cons (pe_ix ix_tup (pv 1) pe_int (fun _ _ => rfl)) pa_nil))) pa_nil))) pa_nil))))) pss_nil)
      (pss_mid (ps_set (i := 4) sc_br.nd rfl (.inl rfl) (pe_lst (pa_cons (pe_heard (k := 5) (t := fun E2 => tCall (spBoth CS) [] E2 (tCons (tVar 0) (tCons (tVar 1) tNil))) FH gH TH (g_br _ (.tail _ (.tail _ (.tail _ (.head _))))) TB rfl hmT hu (hr.mono (by decide)) (LamX.lamS_by (sc := defScope s_both_right) (by decide +kernel)) rfl (fun _ _ _ _ _ => rfl) (fun A2 outer2 s2 H2 E2 f2 c2 hr2 => pe_doO DB (hr2.mono (by decide)) (by rfl) (passes_call (takes_of rfl rfl rfl rfl) fun _ _ _ _ h => h) (pa_cons (pv 0) (pa_cons (pv 1) pa_nil)))) pa_nil)))
      (pss_mid (ps_expr (pe_bm PySem.F.plainAttrs_list PySem.F.slot_list_append PySem.F.type_list_append mt_append (pv 4) (pa_cons (pe_heard (k := 5) (t := fun E2 => tCallK (spBoth CS) List.reverse E2 (tCons (tVar 1) (tCons (tVar 0) tNil))) FH gH TH (g_br _ (.tail _ (.tail _ (.tail _ (.head _))))) TB rfl hmT hu (hr.mono (by decide)) (LamX.lamS_by (sc := defScope s_both_right) (by decide +kernel)) rfl (fun _ _ _ _ _ => rfl) (fun A2 outer2 s2 H2 E2 f2 c2 hr2 => pe_doK DBK (hr2.mono (by decide)) (by rfl) (passes_call (takes_of rfl rfl rfl rfl) fun _ _ _ _ h => h) (pk_cons (pv 1) (pk_cons (pv 0) pk_nil)) (hlen := lenB))) pa_nil)))
      (pss_one (ps_ret (pe_cmpR op_eq (pe_callB (call_repr hr hgd SM) (g_br _ (.tail _ (.tail _ (.tail _ (.tail _ (.head _)))))) B.repr (by decide +kernel) (pa_cons (pv 4) pa_nil)) (pe_callB (call_repr hr hgd SM) (g_br _ (.tail _ (.tail _ (.tail _ (.tail _ (.head _)))))) B.repr (by decide +kernel) (pa_cons (pe_lst (pa_cons (pv 2) (pa_cons (pv 2) pa_nil))) pa_nil)) (nomark _))))))))), ?_⟩
    refine ⟨fun σ' H' => ∃ q, σ' = [some v1, some v2, some (.ref q), none, none] ∧ Same H H' ∧ H' q = some (.lst [.str "told", .non]), ⟨by show 2 ≤ sizeLine; decide, fun q hq => ⟨q, rfl, Same.new hq, upd_same⟩⟩, ?_⟩
    rintro _ H1 ⟨q0, rfl, s1, h0⟩
    have e1 := hd1.mono s1
    have e2 := hd2.mono s1
    have t1 := hT.ext s1
    -- what is none
    refine ⟨fun σ' H' => ∃ q x, σ' = [some v1, some v2, some (.ref q), x, none] ∧ Same H1 H' ∧ H' q = some (.lst [.str (stepB v1 v2 (spanB d1) (spanB d2) 2).1, (stepB v1 v2 (spanB d1) (spanB d2) 2).2]), ?_, ?_⟩
    · refine ⟨_, rfl, _, rfl, by show 2 ≤ sizeLine; decide, fun p hp => ⟨p, rfl, ⟨_, .inl (.inl upd_same)⟩, for_list (K := K) (a := p) (xs := [v2, v1])
        (fun i σ' H' => Same (upd H1 p (.lst [v2, v1])) H' ∧ ∃ q x, σ' = [some v1, some v2, some (.ref q), x, none] ∧ H' q = some (.lst [.str (stepB v1 v2 (spanB d1) (spanB d2) i).1, (stepB v1 v2 (spanB d1) (spanB d2) i).2]))
        ⟨Same.refl _, q0, none, rfl, Same.new hp _ _ h0⟩ (fun i σ' H' _ z => .inl (.inl (z.1 _ _ upd_same))) ?_ (fun σ' H' z => ?_)⟩⟩
      · rintro i x σ' H' hx ⟨s2, q, y, rfl, hq⟩
        have n := (Same.new (o := .lst [v2, v1]) hp).trans s2
        match i, hx with
        | 0, hx =>
          cases hx
          refine ⟨_, rfl, v2, d2, rfl, e2.mono n, _, rfl, ?_⟩
          cases e : spanB d2 with
          | true =>
            refine iteF ⟨s2, q, _, rfl, ?_⟩
            show H' q = some (.lst [.str (if true = false then (("stretch", v2) : Str × V) else ("told", .non)).1, (if true = false then (("stretch", v2) : Str × V) else ("told", .non)).2])
            exact hq
          | false => exact iteT ⟨_, rfl, by show 2 ≤ sizeLine; decide, fun p2 hp2 => ⟨s2.trans (Same.new hp2), p2, _, rfl, upd_same⟩⟩
        | 1, hx =>
          cases hx
          refine ⟨_, rfl, v1, d1, rfl, e1.mono n, _, rfl, ?_⟩
          cases e : spanB d1 with
          | true => exact iteF ⟨s2, q, _, rfl, hq⟩
          | false => exact iteT ⟨_, rfl, by show 2 ≤ sizeLine; decide, fun p2 hp2 => ⟨s2.trans (Same.new hp2), p2, _, rfl, upd_same⟩⟩
      · obtain ⟨s2, q, x, rfl, hq⟩ := z
        exact ⟨q, x, rfl, (Same.new hp).trans s2, hq⟩
    rintro _ H2 ⟨q, x, rfl, s2, hq⟩
    have f1 := e1.mono s2
    have f2 := e2.mono s2
    have t2 := t1.ext s2
    -- what both are
    refine ⟨fun σ' H' => ∃ q, σ' = [some v1, some v2, some (.ref q), x, none] ∧ Same H2 H' ∧ Dv H' (.ref q) (dueB d1 d2), ?_, ?_⟩
    · refine ⟨_, rfl, q, _, 0, _, rfl, rfl, .inl (.inl hq), rfl, rfl, _, rfl, ?_⟩
      by_cases c1 : spanB d1 = false
      · have e : dueB d1 d2 = .list [.str "stretch", d1] := if_pos c1
        have z : stepB v1 v2 (spanB d1) (spanB d2) 2 = (("stretch" : Str), v1) := if_pos c1
        rw [z] at hq ⊢
        refine iteF ⟨q, rfl, Same.refl _, ?_⟩
        rw [e]
        exact .lst (.inl hq) (.cons (.str _) (.cons f1 .nil))
      by_cases c2 : spanB d2 = false
      · have e : dueB d1 d2 = .list [.str "stretch", d2] := (if_neg c1).trans (if_pos c2)
        have z : stepB v1 v2 (spanB d1) (spanB d2) 2 = (("stretch" : Str), v2) := (if_neg c1).trans (if_pos c2)
        rw [z] at hq ⊢
        refine iteF ⟨q, rfl, Same.refl _, ?_⟩
        rw [e]
        exact .lst (.inl hq) (.cons (.str _) (.cons f2 .nil))
      have z : stepB v1 v2 (spanB d1) (spanB d2) 2 = (("told" : Str), V.non) := (if_neg c1).trans (if_neg c2)
      have e : dueB d1 d2 = bothD d1 d2 := (if_neg c1).trans (if_neg c2)
      rw [z] at hq ⊢
      rw [e]
      obtain ⟨a1, b1, rfl, _⟩ := span_ends (by simpa using c1)
      obtain ⟨a2, b2, rfl, _⟩ := span_ends (by simpa using c2)
      obtain ⟨u1, xs1, rfl, hu1, hx1⟩ := f1.isT
      obtain ⟨u2, xs2, rfl, hu2, hx2⟩ := f2.isT
      cases hx1 with
      | cons x1 r1 =>
      cases r1 with
      | cons y1 r1 =>
      cases r1
      cases x1
      cases y1
      cases hx2 with
      | cons x2 r2 =>
      cases r2 with
      | cons y2 r2 =>
      cases r2
      cases x2
      cases y2
      refine iteT ?_
      refine ⟨_, rfl, u1, _, 0, _, rfl, rfl, .inl hu1, rfl, _, rfl, u2, _, 0, _, rfl, rfl, .inl hu2, rfl, _, _, rfl, ?_⟩
      refine ⟨_, rfl, u1, _, 1, _, rfl, rfl, .inl hu1, rfl, _, rfl, u2, _, 1, _, rfl, rfl, .inl hu2, rfl, _, _, rfl, ?_⟩
      refine ⟨_, _, rfl, rfl, _, rfl, ?_⟩
      refine ite2 (fun c => ?_) (fun c => ?_)
      · have c : hiI a1 a2 ≤ loI b1 b2 := of_decide_eq_true c
        refine ⟨_, rfl, u1, _, 0, _, rfl, rfl, .inl hu1, rfl, _, rfl, u2, _, 0, _, rfl, rfl, .inl hu2, rfl, _, _, rfl, ?_⟩
        refine ⟨_, rfl, u1, _, 1, _, rfl, rfl, .inl hu1, rfl, _, rfl, u2, _, 1, _, rfl, rfl, .inl hu2, rfl, _, _, rfl, ?_⟩
        refine ⟨by show 2 ≤ sizeLine; decide, fun p hp => ⟨by show 2 ≤ sizeLine; decide, fun p2 hp2 => ⟨p2, rfl, (Same.new hp).trans (Same.new hp2), ?_⟩⟩⟩
        have e : bothD (.tuple [.int a1, .int b1]) (.tuple [.int a2, .int b2]) = .list [.str "told", .tuple [.int (hiI a1 a2), .int (loI b1 b2)]] := if_neg (by omega)
        rw [e]
        exact .lst (.inl upd_same) (.cons (.str _) (.cons (.tup (.inl ((Same.new hp2) _ _ upd_same)) (.cons (.int _) (.cons (.int _) .nil))) .nil))
      · have c : ¬ hiI a1 a2 ≤ loI b1 b2 := fun z => c (decide_eq_true z)
        have e : bothD (.tuple [.int a1, .int b1]) (.tuple [.int a2, .int b2]) = .list [.str "told", .none] := if_pos (by omega)
        refine ⟨q, rfl, Same.refl _, ?_⟩
        rw [e]
        exact .lst (.inl hq) (.cons (.str _) (.cons .non .nil))
    rintro _ H3 ⟨q3, rfl, s3, hq3⟩
    have g1 := f1.mono s3
    have g2 := f2.mono s3
    have t3 := t2.ext s3
    have x3 : ExtN H H3 := (ExtN.of s1).trans ((ExtN.of s2).trans (ExtN.of s3))
    -- what is got
    refine ⟨fun σ' H' => Tabs T H' ∧ ExtN H H' ∧ ∃ g r, σ' = [some v1, some v2, some (.ref q3), x, some (.ref g)] ∧ (∀ o, H g = some o → (∀ ps, o ≠ .tbl ps) → False) ∧ H' g = some (.lst [.ref r]) ∧ Dv H' (.ref r) (dueB d1 d2) ∧ Dv H' (.ref q3) (dueB d1 d2) ∧ Dv H' v1 d1 ∧ Dv H' v2 d2, ?_, ?_⟩
    · refine heard_both (fun E H' Q' h => ⟨_, rfl, _, rfl, h⟩) g1 g2 t3 (fun r H' e t' dr => ?_)
      refine ⟨by show 1 ≤ sizeLine; decide, fun g hg => ?_⟩
      have n := Same.new (o := .lst [V.ref r]) hg
      have xe := x3.trans e
      exact ⟨t'.ext n, xe.trans (ExtN.of n), g, r, rfl, (fun o z n1 => nomatch ((xe g o z n1).symm.trans hg)), upd_same, dr.mono n, (hq3.ext e).mono n, (g1.ext e).mono n, (g2.ext e).mono n⟩
    rintro _ H4 ⟨t4, x4, g, r, rfl, fr, hg, hr4, hq4, k1, k2⟩
    -- once more
    refine ⟨fun σ' H' => Tabs T H' ∧ ExtN H H' ∧ σ' = [some v1, some v2, some (.ref q3), x, some (.ref g)] ∧ Dv H' (.ref g) (.list [dueB d1 d2, dueB d1 d2]) ∧ Dv H' (.ref q3) (dueB d1 d2), ?_, ?_⟩
    · refine ⟨_, rfl, .inl ⟨rfl, _, .inl (.inl hg)⟩, ?_⟩
      refine heard_both (fun E H' Q' h => ⟨_, rfl, _, rfl, h⟩) k1 k2 t4 (fun r2 H' e t' dr2 => ?_)
      have hg' : H' g = some (.lst [.ref r]) := e _ _ hg (fun _ z => nomatch z)
      have gd : Dv H' (.ref g) (.list [dueB d1 d2]) := .lst (.inl hg') (.cons (hr4.ext e) .nil)
      have deep : ∀ d', Dv H' (.ref g) d' → (dueB d1 d2).depth < d'.depth := fun d' h => by
        rw [← Dv.one gd h]
        show (dueB d1 d2).depth < max (dueB d1 d2).depth 0 + 1
        omega
      have kk : ∀ b o, H' b = some o → b ≠ g → upd H' g (.lst [.ref r, .ref r2]) b = some o := fun b o z n => (upd_ne n).trans z
      refine ⟨g, _, _, rfl, rfl, hg', by show 1 < sizeLine; decide, tabs_keep t' hg' kk, fun b o z n2 => ?_, rfl, ?_, ?_⟩
      · exact kk _ _ ((x4.trans e) b o z n2) (fun zb => fr o (by rw [← zb]; exact z) n2)
      · exact .lst (.inl upd_same) (.cons ((hr4.ext e).past deep kk (Nat.le_refl _)) (.cons (dr2.past deep kk (Nat.le_refl _)) .nil))
      · exact (hq4.ext e).past deep kk (Nat.le_refl _)
    rintro _ H5 ⟨t5, x5, rfl, hg5, hq5⟩
    have good := due_good o1 o2
    refine ⟨_, rfl, .ref g, _, rfl, hg5, good.1, good.2.1, good.2.2, _, rfl, _, rfl, by show 2 ≤ sizeLine; decide, fun p2 hp2 => ?_⟩
    have n := Same.new (o := .lst [V.ref q3, V.ref q3]) hp2
    refine ⟨.ref p2, _, rfl, .lst (.inl upd_same) (.cons (hq5.mono n) (.cons (hq5.mono n) .nil)), good.1, good.2.1, good.2.2, rfl, ?_⟩
    have yes : ∀ b : Bool, b = true → Q (.bl b) (upd H5 p2 (.lst [V.ref q3, V.ref q3])) := fun b e => by
      rw [e]
      exact hQ _ (x5.trans (ExtN.of n)) (t5.ext n)
    exact yes _ (decide_eq_true rfl)
end
end K02
namespace K02
open PySem PySem.Spec PyProof.Rows L2 Tc Evl TL
open LamX (tLam LamS lamCx lamEnv Tabs TabB ExtN)
theorem hide_kp {a : Addr} {H H' : Hp} (h : Kp a H H') : ExtN (hide a H) (hide a H') := fun b o e z => by
  by_cases n : b = a
  · have q : hide a H b = none := if_pos n
    rw [q] at e
    cases e
  · have q : hide a H b = H b := if_neg n
    rw [q] at e
    exact hide_of (h b o e n z) n
theorem span_odd {lo hi : Int} (h0 : 0 ≤ lo) (h1 : lo ≤ hi) (h2 : hi ≤ 4000) : OddOk (.tuple [.int lo, .int hi]) :=
  .inl ((Fine.tup (FineAll.cons (l := 0) (Fine.int (by omega) (by omega)) (FineAll.cons (l := 0) (Fine.int (by omega) (by omega)) (FineAll.nil (k := 0)) (Nat.zero_le _)) (Nat.zero_le _))).mono (by decide) (by decide))
def toldS : PyData → PyData
  | .tuple [.int a, .int b] => .list [.str "told", .str (spanText a b)]
  | _ => .none
def dueS (d : PyData) : PyData := if spanB d = false then .list [.str "stretch", d] else toldS d
theorem dueS_good {d : PyData} (h : OddOk d) : Good (dueS d) := by
  unfold dueS
  by_cases c : spanB d = false
  · rw [if_pos c]
    rcases h with f | rfl | rfl
    · have g : Fine (.list [.str "stretch", d]) 200 6 := (Fine.lst (FineAll.cons (l := 0) (Fine.str (x := "stretch") (by decide +kernel)) (FineAll.cons (l := 5) f (FineAll.nil (k := 5)) (Nat.le_refl 5)) (Nat.zero_le _))).mono (by decide) (by decide)
      exact g.good (by decide) (by decide)
    · decide +kernel
    · decide +kernel
  · rw [if_neg c]
    obtain ⟨a, b, rfl, p1, p2, p3⟩ := span_ends (by simpa using c)
    have e : toldS (.tuple [.int a, .int b]) = .list [.str "told", .str (spanText a b)] := rfl
    rw [e]
    have tx := span_tx p1 p2 p3
    exact (Fine.lst (FineAll.cons (l := 0) (Fine.str (x := "told") (by decide +kernel)) (FineAll.cons (l := 0) tx.fine (FineAll.nil (k := 0)) (Nat.zero_le _)) (Nat.zero_le _))).good (by decide) (by decide)
theorem heard_stext {T : List (Addr × Str)} {CS CT : Addr} {σ : L2.St} {H : Hp} {v : V} {d : PyData} {Q : VK} {t : XK → TE} (ht : ∀ E H' Q', spSText CS [v] H' Q' E → t E σ H' Q')
    (h : Dv H v d) (hT : Tabs T H) (q : ∀ p H', ExtN H H' → Tabs T H' → Dv H' (.ref p) (dueS d) → Q (.ref p) H') : tLam T (TTh CS CT) t σ H Q := by
  refine ⟨hT, fun H1 e1 t1 => ?_⟩
  have hd := h.ext e1
  have fin : ∀ (p : Addr) (H2 : Hp), Same H1 H2 → Dv H2 (.ref p) (dueS d) → Q (.ref p) H2 := fun p H2 s h => q p H2 (e1.trans (ExtN.of s)) (t1.ext s) h
  refine ht _ H1 _ ⟨v, d, rfl, hd, fun a b e z0 z1 z2 => ⟨by show 2 ≤ sizeLine; decide, fun p hp => ?_⟩, fun e dd hdd => ?_⟩
  · subst e
    have z : dueS (.tuple [.int a, .int b]) = .list [.str "told", .str (spanText a b)] := if_neg (by rw [span_true z0 z1 z2]; decide)
    refine fin p _ (Same.new hp) ?_
    rw [z]
    exact .lst (.inl upd_same) (.cons (.str _) (.cons (.str _) .nil))
  · refine ⟨CS, dd, v, rfl, .inl rfl, rfl, upd_same, fun p H3 hp s3 h3 => ?_⟩
    have s13 : Same H1 H3 := (Same.new hdd).trans s3
    refine fin p H3 s13 ?_
    have z : dueS d = .list [.str "stretch", d] := if_pos e
    rw [z]
    have kt : kindOf CS CS = "stretch" := if_pos rfl
    rw [kt] at h3
    exact .lst (.inl h3) (.cons (.str _) (.cons (hd.mono s13) .nil))
section
variable {P : Program} {w : World} {K : PySem.W.Frag} {mg : Str → Option Value} {base : Heap}
theorem sc_rt : FnScope ["_law_jar_here", "_law_turn", "_law_one", "_law_two", "_law_more", "_law_pair", "_law_due", "_law_odd_here"] ["_law_jar_here"] (defScope s_right) := ⟨rfl, rfl, rfl, by decide +kernel, rfl, by decide +kernel, by decide +kernel⟩
theorem g_rt : ∀ x ∈ (["range", "_law_span", "_law_odd", "_law_texts_right", "_law_both_right", "_law_is_span", "_law_word", "repr", "_law_heard"] : List Str), (defScope s_right).names.lookup x = some .globalImplicit := by decide +kernel
def spRt (T : List (Addr × Str)) : Sp := fun vs H Q _ => ∃ a : Addr, vs = [.ref a] ∧ Jar H a ∧ Tabs T H ∧ ∀ H' : Hp, Tabs T H' → Kp a H H' → Q (.bl true) H'
theorem ok_rt {f c Pt g CS CT : Addr} {fd fdH : FuncData} {T : List (Addr × Str)} (F : Fun K "_law_right" "_law_right" s_right f fd) (hcode : fd.code = .ref c) (B : Bl mg) (SM : ∃ o, K.lookup sysModules = some o)
    (FH : Fun K "_law_heard" "_law_heard" s_heard g fdH) (gH : mg "_law_heard" = some (.ref g)) (TH : Hx K mg CS CT) (TB : TabB base mg c Pt)
    (hmT : (Pt, (envOfC "_law_right" (defScope s_right) 0 f (.ref c)).qual ++ "<lambda>") ∈ T) (hu : ∀ p ∈ T, p.1 = Pt → p.2 = (envOfC "_law_right" (defScope s_right) 0 f (.ref c)).qual ++ "<lambda>")
    (DSp : Call P w K mg base CX0 3 "_law_span" ["_law_jar_here"] spSpanOf) (DO : Call P w K mg base CX0 3 "_law_odd" ["_law_jar_here", "_law_span_here"] spOdd)
    (DT : Call P w K mg base CX0 8 "_law_texts_right" ["_law_jar_here", "_law_span_here"] (spTr T)) (DB : Call P w K mg base CX0 8 "_law_both_right" ["_law_one", "_law_other"] (spBr T))
    (DI : CallO P w K mg base CX0 2 "_law_is_span" ["_law_value"] spSpan) (DW : CallO P w K mg base CX0 1 "_law_word" ["_law_span_here"] spText) (DS : CallO P w K mg base (L2.CX P w) 4 "stretch_text" ["stretch"] (spSText CS)) :
    FnG P w K mg base CX0 9 f fd ["_law_jar_here"] (spRt T) := by
  refine Fun.okGC F hcode sc_rt (fun vs H Q E h => ?_) (fun A outer s H vs Q E hr hgd h => ?_)
  · obtain ⟨a, rfl, _⟩ := h
    rfl
  · obtain ⟨a, rfl, hj, hT, hQ⟩ := h
    refine ⟨_, (pss_cons (ps_for PassesOwn.leaving rfl (pi_range1 (g_rt _ (.head _)) B.range (pa_cons pe_int pa_nil)) (pg_name (i := 1) sc_rt.nd rfl (.inl rfl)) (pss_mid (ps_par (by rfl) sc_rt.nd (i := 2) (j := 3) rfl rfl (by decide) rfl rfl (pa_cons (pe_do DSp (hr.mono (by decide)) hgd (g_rt _ (.tail _ (.head _))) pass0 (pa_cons (pv 0) pa_nil)) (pa_cons (pe_do DSp (hr.mono (by decide)) hgd (g_rt _ (.tail _ (.head _))) pass0 (pa_cons (pv 0) pa_nil)) pa_nil)) (by rfl))
      (pss_mid (ps_asg (pe_tup (pa_cons (pe_do DO (hr.mono (by decide)) hgd (g_rt _ (.tail _ (.tail _ (.head _)))) pass0 (pa_cons (pv 0) (pa_cons (pv 2) pa_nil))) (pa_cons (pe_do DO (hr.mono (by decide)) hgd (g_rt _ (.tail _ (.tail _ (.head _)))) pass0 (pa_cons (pv 0) (pa_cons (pv 3) pa_nil))) pa_nil))) (pg_tup (by rfl) (pgs_cons (pg_name (i := 7) sc_rt.nd rfl (.inr rfl)) (pgs_cons (pg_name (i := 4) sc_rt.nd rfl (.inl rfl)) pgs_nil))))
      (pss_mid (ps_if (pt_not (pt_val (pe_do DT (hr.mono (by decide)) hgd (g_rt _ (.tail _ (.tail _ (.tail _ (.head _))))) pass0 (pa_cons (pv 0) (pa_cons (pv 2) pa_nil))))) (pss_one (ps_ret pe_bl)) pss_nil)
      (pss_mid (ps_for PassesOwn.leaving rfl (pi_list (pe_lst (pa_cons (pe_tup (pa_cons (pv 2) (pa_cons (pv 3) pa_nil))) (pa_cons (pe_tup (pa_cons (pv 2) (pa_cons (pv 7) pa_nil))) (pa_cons (pe_tup (pa_cons (pv 4) (pa_cons (pv 3) pa_nil))) (pa_cons (pe_tup (pa_cons (pv 4) (pa_cons (pv 7) pa_nil))) (pa_cons (pe_tup (pa_cons (pv 2) (pa_cons (pv 2) pa_nil))) pa_nil))))))) (pg_name (i := 5) sc_rt.nd rfl (.inl rfl)) (pss_one (ps_if (pt_not (pt_val (pe_do DB (hr.mono (by decide)) hgd (g_rt _ (.tail _ (.tail _ (.tail _ (.tail _ (.head _)))))) pass0 (pa_cons (pe_ix ix_tup (pv 5) pe_int (fun _ _ => rfl)) (pa_cons (pe_ix ix_tup (pv 5) pe_int (fun _ _ => rfl)) pa_nil))))) (pss_one (ps_ret pe_bl)) pss_nil)))
      (pss_mid (ps_set (i := 6) sc_rt.nd rfl (.inl rfl) (pe_ifExp (pt_val (pe_doO DI (hr.mono (by decide)) (g_rt _ (.tail _ (.tail _ (.tail _ (.tail _ (.tail _ (.head _))))))) pass0 (pa_cons (pv 7) pa_nil))) (pe_lst (pa_cons pe_str (pa_cons (pe_doO DW (hr.mono (by decide)) (g_rt _ (.tail _ (.tail _ (.tail _ (.tail _ (.tail _ (.tail _ (.head _)))))))) pass0 (pa_cons (pv 7) pa_nil)) pa_nil))) (pe_lst (pa_cons pe_str (pa_cons (pv 7) pa_nil)))))
      (pss_one (ps_if (pt_cmpR op_ne (pe_callB (call_repr hr hgd SM) (g_rt _ (.tail _ (.tail _ (.tail _ (.tail _ (.tail _ (.tail _ (.tail _ (.head _))))))))) B.repr (by decide +kernel) (pa_cons (pe_heard (k := 5) (t := fun E2 => tCall (spSText CS) [] E2 (tCons (tVar 7) tNil)) FH gH TH (g_rt _ (.tail _ (.tail _ (.tail _ (.tail _ (.tail _ (.tail _ (.tail _ (.tail _ (.head _)))))))))) TB rfl hmT hu (hr.mono (by decide)) (LamX.lamS_by (sc := defScope s_right) (by decide +kernel)) rfl (fun _ _ _ _ _ => rfl) (fun A2 outer2 s2 H2 E2 f2 c2 hr2 => pe_doO DS (hr2.mono (by decide)) (by rfl) (passes_call (takes_of rfl rfl rfl rfl) fun _ _ _ _ h => h) (pa_cons (pv 7) pa_nil))) pa_nil)) (pe_callB (call_repr hr hgd SM) (g_rt _ (.tail _ (.tail _ (.tail _ (.tail _ (.tail _ (.tail _ (.tail _ (.head _))))))))) B.repr (by decide +kernel) (pa_cons (pv 6) pa_nil)) (nomark _)) (pss_one (ps_ret pe_bl)) pss_nil))))))))
      (pss_one (ps_ret pe_bl))), ?_⟩
    refine s_forR1 (n := 4) (ea_cons ev_c ea_nil) (by decide) (fun _ σ' H' => (Tabs T H' ∧ Jar H' a ∧ Kp a H H') ∧ ∃ x1 x2 x3 x4 x5 x6 x7, σ' = [some (.ref a), x1, x2, x3, x4, x5, x6, x7])
      (fun H2 e => ⟨⟨hT.ext e, jar_same hj e, (Kp.refl a H).same e⟩, none, none, none, none, none, none, none, rfl⟩) ?_ (fun σ' H' p => hQ H' p.1.1 p.1.2.2)
    rintro i _ H2 hi ⟨⟨t2, j2, k2⟩, x1, x2, x3, x4, x5, x6, x7, rfl⟩
    -- one, two
    refine ⟨fun σ' H' => (Tabs T H' ∧ Jar H' a ∧ Kp a H H') ∧ ∃ p1 p2 lo1 hi1 lo2 hi2, σ' = [some (.ref a), some (.int (i : Int)), some (.ref p1), some (.ref p2), x4, x5, x6, x7] ∧ (H' p1 = some (.tup [.int lo1, .int hi1]) ∧ 0 ≤ lo1 ∧ lo1 ≤ hi1 ∧ hi1 ≤ 4000) ∧ (H' p2 = some (.tup [.int lo2, .int hi2]) ∧ 0 ≤ lo2 ∧ lo2 ≤ hi2 ∧ hi2 ≤ 4000), ?_, ?_⟩
    · refine ⟨_, rfl, a, rfl, j2, fun lo1 hi1 p1 H3 u1 u2 u3 n1 j3 b3 h1 => ?_⟩
      have p1a : p1 ≠ a := fun z => by
        obtain ⟨_, _, _, ja, _⟩ := j2
        rw [← z, n1] at ja
        cases ja
      refine ⟨_, rfl, a, rfl, j3, fun lo2 hi2 p2 H4 w1 w2 w3 n2 j4 b4 h2 => ?_⟩
      exact ⟨_, _, rfl, ⟨tabs_but (tabs_but t2 j2 b3) j3 b4, j4, (k2.but b3).but b4⟩, p1, p2, lo1, hi1, lo2, hi2, rfl, ⟨b4 _ _ h1 p1a, u1, u2, u3⟩, h2, w1, w2, w3⟩
    rintro _ H3 ⟨⟨t3, j3, k3⟩, p1, p2, lo1, hi1, lo2, hi2, rfl, ⟨h1, u1, u2, u3⟩, h2, w1, w2, w3⟩
    have tupa : ∀ {p : Addr} {l : List V} {H' : Hp}, H' p = some (.tup l) → Jar H' a → p ≠ a := fun h j z => by
      obtain ⟨_, _, _, ja, _⟩ := j
      rw [← z, h] at ja
      cases ja
    -- odd, more
    refine ⟨fun σ' H' => (Tabs T H' ∧ Jar H' a ∧ Kp a H H') ∧ (H' p1 = some (.tup [.int lo1, .int hi1]) ∧ H' p2 = some (.tup [.int lo2, .int hi2])) ∧ ∃ vo vm dO dM, σ' = [some (.ref a), some (.int (i : Int)), some (.ref p1), some (.ref p2), some vm, x5, x6, some vo] ∧ Dv (hide a H') vo dO ∧ OddOk dO ∧ Dv (hide a H') vm dM ∧ OddOk dM, ?_, ?_⟩
    · refine ⟨_, rfl, _, rfl, a, p1, lo1, hi1, rfl, j3, h1, u1, u2, u3, fun vo dO H4 ho oo j4 b4 => ?_⟩
      have q2 := b4 _ _ h2 (tupa h2 j3)
      refine ⟨_, rfl, _, rfl, a, p2, lo2, hi2, rfl, j4, q2, w1, w2, w3, fun vm dM H5 hm om j5 b5 => ?_⟩
      refine ⟨by show 2 ≤ sizeLine; decide, fun p hp => ?_⟩
      have n := Same.new (o := .tup [vo, vm]) hp
      refine ⟨p, _, rfl, .inl (.inl upd_same), rfl, _, _, rfl, _, _, rfl, rfl, ?_⟩
      refine ⟨⟨(tabs_but (tabs_but t3 j3 b4) j4 b5).ext n, jar_same j5 n, ((k3.but b4).but b5).same n⟩, ⟨n _ _ (b5 _ _ (b4 _ _ h1 (tupa h1 j3)) (tupa h1 j3)), n _ _ (b5 _ _ q2 (tupa h2 j3))⟩, vo, vm, dO, dM, rfl, ?_, oo, hm.mono (hide_same n), om⟩
      exact (ho.mono (hide_but2 b5)).mono (hide_same n)
    rintro _ H4 ⟨⟨t4, j4, k4⟩, ⟨h1, h2⟩, vo, vm, dO, dM, rfl, ho, oo, hm, om⟩
    -- texts
    refine ⟨fun σ' H' => (Tabs T H' ∧ Jar H' a ∧ Kp a H H') ∧ (H' p1 = some (.tup [.int lo1, .int hi1]) ∧ H' p2 = some (.tup [.int lo2, .int hi2])) ∧ σ' = [some (.ref a), some (.int (i : Int)), some (.ref p1), some (.ref p2), some vm, x5, x6, some vo] ∧ Dv (hide a H') vo dO ∧ Dv (hide a H') vm dM, ?_, ?_⟩
    · refine ⟨_, rfl, _, rfl, a, p1, lo1, hi1, rfl, j4, h1, u1, u2, u3, t4, fun H5 t5 j5 k5 => ⟨_, rfl, iteF ?_⟩⟩
      exact ⟨⟨t5, j5, fun b o e n z => k5 b o (k4 b o e n z) n z⟩, ⟨k5 _ _ h1 (tupa h1 j4) (fun _ z => nomatch z), k5 _ _ h2 (tupa h2 j4) (fun _ z => nomatch z)⟩, rfl, ho.ext (hide_kp k5), hm.ext (hide_kp k5)⟩
    rintro _ H5 ⟨⟨t5, j5, k5⟩, ⟨h1, h2⟩, rfl, ho, hm⟩
    -- both
    have so : OddOk (.tuple [.int lo1, .int hi1]) := span_odd u1 u2 u3
    have st : OddOk (.tuple [.int lo2, .int hi2]) := span_odd w1 w2 w3
    refine ⟨fun σ' H' => (Tabs T H' ∧ Jar H' a ∧ Kp a H H') ∧ ∃ x5, σ' = [some (.ref a), some (.int (i : Int)), some (.ref p1), some (.ref p2), some vm, x5, x6, some vo] ∧ Dv H' vo dO, ?_, ?_⟩
    · refine ⟨_, rfl, _, rfl, by show 2 ≤ sizeLine; decide, fun c1 hc1 => ?_⟩
      have n1 := Same.new (o := .tup [.ref p1, .ref p2]) hc1
      refine ⟨_, rfl, _, rfl, by show 2 ≤ sizeLine; decide, fun c2 hc2 => ?_⟩
      have n2 := Same.new (o := .tup [.ref p1, vo]) hc2
      refine ⟨_, rfl, _, rfl, by show 2 ≤ sizeLine; decide, fun c3 hc3 => ?_⟩
      have n3 := Same.new (o := .tup [vm, .ref p2]) hc3
      refine ⟨_, rfl, _, rfl, by show 2 ≤ sizeLine; decide, fun c4 hc4 => ?_⟩
      have n4 := Same.new (o := .tup [vm, vo]) hc4
      refine ⟨_, rfl, _, rfl, by show 2 ≤ sizeLine; decide, fun c5 hc5 => ?_⟩
      have n5 := Same.new (o := .tup [.ref p1, .ref p1]) hc5
      refine ⟨by show 5 ≤ sizeLine; decide, fun l hl => ?_⟩
      have nl := Same.new (o := .lst [.ref c1, .ref c2, .ref c3, .ref c4, .ref c5]) hl
      have m5 := nl
      have m4 := n5.trans m5
      have m3 := n4.trans m4
      have m2 := n3.trans m3
      have m1 := n2.trans m2
      have m0 := n1.trans m1
      have do_ := (ho.mono (hide_in a H5)).mono m0
      have dm_ := (hm.mono (hide_in a H5)).mono m0
      have d1 : Dv _ (.ref p1) (.tuple [.int lo1, .int hi1]) := .tup (.inl (m0 _ _ h1)) (.cons (.int _) (.cons (.int _) .nil))
      have d2 : Dv _ (.ref p2) (.tuple [.int lo2, .int hi2]) := .tup (.inl (m0 _ _ h2)) (.cons (.int _) (.cons (.int _) .nil))
      have q1 := m1 _ _ upd_same
      have q2 := m2 _ _ upd_same
      have q3 := m3 _ _ upd_same
      have q4 := m4 _ _ upd_same
      have q5 := m5 _ _ upd_same
      generalize hHs : upd _ l (HO.lst [V.ref c1, V.ref c2, V.ref c3, V.ref c4, V.ref c5]) = Hs at *
      have ll : Hs l = some (.lst [.ref c1, .ref c2, .ref c3, .ref c4, .ref c5]) := by rw [← hHs]; exact upd_same
      have items : ∀ (j : Nat) (x : V), ([.ref c1, .ref c2, .ref c3, .ref c4, .ref c5] : List V)[j]? = some x → ∃ t v w d e, x = .ref t ∧ Hs t = some (.tup [v, w]) ∧ Dv Hs v d ∧ Dv Hs w e ∧ OddOk d ∧ OddOk e := by
        intro j x hx
        match j, hx with
        | 0, hx => cases hx; exact ⟨c1, _, _, _, _, rfl, q1, d1, d2, so, st⟩
        | 1, hx => cases hx; exact ⟨c2, _, _, _, _, rfl, q2, d1, do_, so, oo⟩
        | 2, hx => cases hx; exact ⟨c3, _, _, _, _, rfl, q3, dm_, d2, om, st⟩
        | 3, hx => cases hx; exact ⟨c4, _, _, _, _, rfl, q4, dm_, do_, om, oo⟩
        | 4, hx => cases hx; exact ⟨c5, _, _, _, _, rfl, q5, d1, d1, so, so⟩
      refine ⟨l, rfl, ⟨_, .inl (.inl ll)⟩, for_list (K := K) (a := l) (xs := [.ref c1, .ref c2, .ref c3, .ref c4, .ref c5])
        (fun _ σ' H' => Tabs T H' ∧ ExtN Hs H' ∧ ∃ x5, σ' = [some (.ref a), some (.int (i : Int)), some (.ref p1), some (.ref p2), some vm, x5, x6, some vo])
        ⟨t5.ext m0, ExtN.refl _, _, rfl⟩ (fun _ _ _ _ z => .inl (.inl (z.2.1 _ _ ll (fun _ z => nomatch z)))) ?_ ?_⟩
      · rintro j x _ H6 hx ⟨t6, e6, x5, rfl⟩
        obtain ⟨t, v, w, d, e, rfl, ht, hv, hw, ov, ow⟩ := items j x hx
        have ht6 := e6 _ _ ht (fun _ z => nomatch z)
        refine ⟨_, rfl, t, _, 0, _, rfl, rfl, .inl (.inl ht6), rfl, _, rfl, t, _, 1, _, rfl, rfl, .inl (.inl ht6), rfl, v, w, d, e, rfl, hv.ext e6, hw.ext e6, ov, ow, t6, fun H7 e7 t7 => ⟨_, rfl, iteF ⟨t7, e6.trans e7, _, rfl⟩⟩⟩
      · rintro _ H6 ⟨t6, e6, x5, rfl⟩
        have e56 : ExtN H5 H6 := (ExtN.of m0).trans e6
        exact ⟨⟨t6, jar_ext j5 e56, k5.ext e56⟩, x5, rfl, do_.ext e6⟩
    rintro _ H6 ⟨⟨t6, j6, k6⟩, x5, rfl, ho⟩
    -- due
    refine ⟨fun σ' H' => ∃ q, σ' = [some (.ref a), some (.int (i : Int)), some (.ref p1), some (.ref p2), some vm, x5, some (.ref q), some vo] ∧ Same H6 H' ∧ Dv H' (.ref q) (dueS dO), ?_, ?_⟩
    · refine ⟨_, rfl, vo, dO, rfl, ho, _, rfl, ?_⟩
      cases e : spanB dO with
      | true =>
        obtain ⟨x, y, rfl, z0, z1, z2⟩ := span_ends e
        refine iteT ⟨_, rfl, vo, x, y, rfl, ho, z0, z1, z2, by show 2 ≤ sizeLine; decide, fun q hq => ⟨q, rfl, Same.new hq, ?_⟩⟩
        have z : dueS (.tuple [.int x, .int y]) = .list [.str "told", .str (spanText x y)] := if_neg (by rw [e]; decide)
        rw [z]
        exact .lst (.inl upd_same) (.cons (.str _) (.cons (.str _) .nil))
      | false =>
        refine iteF ⟨_, rfl, by show 2 ≤ sizeLine; decide, fun q hq => ⟨q, rfl, Same.new hq, ?_⟩⟩
        have z : dueS dO = .list [.str "stretch", dO] := if_pos e
        rw [z]
        exact .lst (.inl upd_same) (.cons (.str _) (.cons (ho.mono (Same.new hq)) .nil))
    rintro _ H7 ⟨q, rfl, s7, hq⟩
    have good := dueS_good oo
    refine heard_stext (fun E H' Q' h => ⟨_, rfl, h⟩) (ho.mono s7) (t6.ext s7) (fun r H' e t' dr => ?_)
    refine ⟨.ref r, _, rfl, dr, good.1, good.2.1, good.2.2, _, rfl, .ref q, _, rfl, hq.ext e, good.1, good.2.1, good.2.2, rfl, _, rfl, ?_⟩
    refine ite2 (fun c => ?_) (fun _ => ⟨⟨t', jar_ext (jar_same j6 s7) e, (k6.same s7).ext e⟩, _, _, _, _, _, _, _, rfl⟩)
    simp at c
end
end K02
namespace K02
open PySem PySem.Spec PyProof.Rows L2 Tc Evl TL
open LamX (tLam LamS lamCx lamEnv Tabs TabB ExtN TabS)
section
variable {P : Program} {w : World} {K : PySem.W.Frag} {mg : Str → Option Value} {base : Heap}
theorem sc_law : FnScope ["_law_script", "_law_k"] ["_law_script"] (defScope s_law) := ⟨rfl, rfl, rfl, by decide +kernel, rfl, by decide +kernel, by decide +kernel⟩
theorem g_law : ∀ x ∈ (["range", "_law_right", "_law_jar"] : List Str), (defScope s_law).names.lookup x = some .globalImplicit := by decide +kernel
def spLaw (K : PySem.W.Frag) (T : List (Addr × Str)) : Sp := fun vs H Q _ => ∃ (a : Addr) (ns : List Int), vs = [.ref a] ∧ SqL K H a (ns.map V.int) ∧ ns.length ≤ 63 ∧ Tabs T H ∧ ∀ H', Q (.bl true) H'
theorem sq_but {H H' : Hp} {a p : Addr} {xs : List V} (h : SqL K H a xs) (hp : H p = none) (b : ∀ c o, H c = some o → c ≠ p → (∀ ps, o ≠ .tbl ps) → H' c = some o) : SqL K H' a xs := by
  rcases h with (h | ⟨o, h⟩) | h
  · exact .inl (.inl (b _ _ h (ne_of_none h hp) (fun _ z => nomatch z)))
  · exact .inl (.inr ⟨o, b _ _ h (ne_of_none h hp) (fun _ z => nomatch z)⟩)
  · exact .inr h
theorem ok_law {f : Addr} {fd : FuncData} {T : List (Addr × Str)} (F : Fun K "law" "law" s_law f fd) (B : Bl mg)
    (DJ : Call P w K mg base CX0 1 "_law_jar" ["_law_script", "_law_k"] (spJar K)) (DR : Call P w K mg base CX0 9 "_law_right" ["_law_jar_here"] (spRt T)) :
    FnG P w K mg base CX0 10 f fd ["_law_script"] (spLaw K T) := by
  refine Fun.okG F sc_law (fun vs H Q E h => ?_) (fun cdv A outer s H vs Q E hr hgd h => ?_)
  · obtain ⟨a, ns, rfl, _⟩ := h
    rfl
  · obtain ⟨a, ns, rfl, hS, hl, hT, hQ⟩ := h
    refine ⟨_, pss_cons (ps_for PassesOwn.leaving rfl (pi_range1 (g_law _ (.head _)) B.range (pa_cons pe_int pa_nil)) (pg_name (i := 1) sc_law.nd rfl (.inl rfl))
      (pss_one (ps_if (pt_not (pt_val (pe_do DR (hr.mono (by decide)) hgd (g_law _ (.tail _ (.head _))) pass0
        (pa_cons (pe_do DJ (hr.mono (by decide)) hgd (g_law _ (.tail _ (.tail _ (.head _)))) pass0 (pa_cons (pv 0) (pa_cons (pv 1) pa_nil))) pa_nil)))) (pss_one (ps_ret pe_bl)) pss_nil)))
      (pss_one (ps_ret pe_bl)), ?_⟩
    refine s_forR1 (n := 2) (ea_cons ev_c ea_nil) (by decide) (fun _ σ H' => SqL K H' a (ns.map V.int) ∧ Tabs T H' ∧ ∃ k : Option V, σ = [some (.ref a), k]) (fun H1 e => ⟨Same.seq e hS, hT.ext e, none, rfl⟩) ?_ (fun σ' H' _ => hQ H')
    rintro i σ H1 hi ⟨h1, t1, k, rfl⟩
    refine ⟨_, rfl, _, rfl, a, ns, i, rfl, by omega, h1, hl, fun H2 p hp s hj => ⟨p, rfl, hj, t1.ext s, fun H3 t3 b => ⟨_, rfl, iteF ⟨?_, t3, _, rfl⟩⟩⟩⟩
    exact sq_but h1 hp fun c o z n nt => b c o (s c o z) n nt
end
end K02
namespace K02
open PySem PySem.Spec PyProof.Rows L2 Tc Evl TL
open LamX (tLam LamS lamCx lamEnv Tabs TabB ExtN TabS)
theorem allB {α : Type} {l : List α} {p : α → Bool} (h : l.all p = true) {x : α} (hx : x ∈ l) : p x = true := List.all_eq_true.mp h x hx
theorem vals_rev : ∀ {vs : List V} {us : List Value}, Vals vs us → Vals vs.reverse us.reverse
  | _, _, .nil => .nil
  | _, _, .cons (a := a) (b := b) r h => by
    rw [List.reverse_cons, List.reverse_cons]
    exact Vals.append (vals_rev h) (.cons r .nil)
theorem beq_ref {a b : Addr} : ((Value.ref a) == (Value.ref b)) = decide (a = b) := by
  by_cases e : a = b
  · subst e
    simp
  · rw [decide_eq_false e]
    exact beq_eq_false_iff_ne.mpr fun z => e (Value.ref.inj z)
/-- the name of a lambda of the def -/
def lamN (x : Str) (st : Stmt) : Str := (envOfC x (defScope st) 0 0 (.ref 0)).qual ++ "<lambda>"
/-- the tables' list -/
def tabL (K : PySem.W.Frag) : List (Addr × Str) := [((He.cT K ("_law_texts_right", none)).2, lamN "_law_texts_right" s_texts_right), ((He.cT K ("_law_both_right", none)).2, lamN "_law_both_right" s_both_right), ((He.cT K ("_law_right", none)).2, lamN "_law_right" s_right)]
section
variable {K : PySem.W.Frag} {h : Heap} {mg : Str → Option Value}
structure Parts (K : PySem.W.Frag) : Prop where
  exk : ∀ e ∈ exs, exkB K e.2.2.1 e.1 e.2.1 = true
  exa : ∀ e ∈ alls, exaB K e.1 = true ∧ (He.Fa.glo e.1).ok K = true
  exs' : exsB K = true
  funs' : ∀ x ∈ funs, (He.Fa.glo x).ok K = true
  free : ∀ x ∈ frees, (He.Fa.free x).ok K = true
  nums' : ∀ e ∈ nums, (He.Fa.int e.1 e.2).ok K = true
  mros' : mros K = true
  ne : tabsNe K = true
  sm : (K.lookup sysModules).isSome = true
theorem partsF (c : SaysM F fn K) : Parts K := by
  obtain ⟨z1, z⟩ := He.ba c.fact
  obtain ⟨z2, z⟩ := He.ba z
  obtain ⟨z3, z⟩ := He.ba z
  obtain ⟨z4, z⟩ := He.ba z
  obtain ⟨z5, z⟩ := He.ba z
  obtain ⟨z6, z⟩ := He.ba z
  obtain ⟨z7, z⟩ := He.ba z
  obtain ⟨z8, z9⟩ := He.ba z
  exact ⟨fun e he => allB z1 he, fun e he => He.ba (allB z2 he), z3, fun x hx => allB z4 hx, fun x hx => allB z5 hx, fun e he => allB z6 he, z7, z8, z9⟩
theorem mro_ok {x : Str} {l : List Value} (h : mroB K x l = true) : (∃ cd, PySem.W.clsIn K (He.ga K x) = some cd ∧ cd.mro = l) ∧ PySem.W.typeIn K (.ref (He.ga K x)) = some (.type "type") := by
  obtain ⟨z1, z2⟩ := He.ba h
  refine ⟨?_, of_decide_eq_true z2⟩
  cases w : PySem.W.clsIn K (He.ga K x) with
  | none =>
    rw [w] at z1
    cases z1
  | some cd =>
    rw [w] at z1
    exact ⟨cd, rfl, of_decide_eq_true z1⟩
theorem sub_ok {x : Str} {v0 : Value} {l : List Value} (h : mroB K x (v0 :: l) = true) (v : Value) : PySem.W.subIn K (.ref (He.ga K x)) v = some ((v0 :: l).contains v) := by
  obtain ⟨⟨cd, hc, hm⟩, _⟩ := mro_ok h
  show (PySem.W.clsIn K (He.ga K x)).bind _ = _
  rw [hc]
  show (if cd.mro.isEmpty then none else some (cd.mro.contains v)) = _
  rw [hm] <;> rfl
theorem kit_ok {x y : Str} {v0 w0 : Value} {l m : List Value} (h : mroB K x (v0 :: l) = true) (g : mroB K y (w0 :: m) = true) : PySem.W.kitCls K (.ref (He.ga K x)) (.ref (He.ga K y)) = some ((v0 :: l).contains (.ref (He.ga K y))) := by
  obtain ⟨⟨cd, hc, _⟩, ht⟩ := mro_ok g
  unfold PySem.W.kitCls
  show (if ((PySem.W.clsIn K (He.ga K y)).isSome && PySem.W.typeIn K (.ref (He.ga K y)) == some (.type "type")) = true then PySem.W.subIn K (.ref (He.ga K x)) (.ref (He.ga K y)) else none) = _
  rw [hc, ht]
  exact sub_ok h _
theorem exm_ok {x y : Str} {v0 : Value} {l : List Value} {k : Kin} (h : mroB K x (v0 :: l) = true) (g : mroB K y (.ref (He.ga K y) :: k.mro) = true) : PySem.W.exmOne K (.ref (He.ga K x)) (.ref (He.ga K y)) = some ((v0 :: l).contains (.ref (He.ga K y))) := by
  unfold PySem.W.exmOne
  have e : PySem.W.subIn K (.ref (He.ga K y)) (.type "BaseException") = some true := by
    rw [sub_ok g]
    cases k <;> rfl
  rw [e]
  show (if (some true == some true) = true then _ else none) = _
  rw [if_pos (by decide)]
  exact kit_ok h g
abbrev lst0 (K : PySem.W.Frag) (x : Str) : List Value := .ref (He.ga K x) :: .ref (He.ga K "WrongValue") :: Kin.v.mro
theorem mro_x (c : Parts K) {x : Str} (h : x = "InvalidStretch" ∨ x = "InvalidText") : mroB K x (lst0 K x) = true := by
  have z := (He.ba c.mros').1
  rcases h with rfl | rfl
  · exact allB z (x := ex1 "InvalidStretch" "given" .v 3) (by unfold exs; exact .tail _ (.head _))
  · exact allB z (x := ex1 "InvalidText" "given" .v 2) (by unfold exs; exact .head _)
theorem mro_b (c : Parts K) : mroB K "WrongValue" (.ref (He.ga K "WrongValue") :: Kin.v.mro) = true ∧ mroB K "WrongName" (.ref (He.ga K "WrongName") :: Kin.l.mro) = true ∧ mroB K "NotPossible" (.ref (He.ga K "NotPossible") :: Kin.a.mro) = true ∧ He.ga K "InvalidText" ≠ He.ga K "InvalidStretch" := by
  obtain ⟨z, n⟩ := He.ba (He.ba c.mros').2
  refine ⟨allB z (x := al1 "WrongValue" .v) (.head _), allB z (x := al1 "WrongName" .l) (.tail _ (.head _)), allB z (x := al1 "NotPossible" .a) (.tail _ (.tail _ (.head _))), fun e => ?_⟩
  rw [e] at n
  simp at n
theorem hx_of (X : K.In h) (G : h.Ns mainGlobals mg) (c : Parts K) : Hx K mg (He.ga K "InvalidStretch") (He.ga K "InvalidText") := by
  have gl : ∀ e ∈ alls, mg e.1 = some (.ref (He.ga K e.1)) := fun e he => He.glo_ok X G (c.exa e he).2
  obtain ⟨bv, bn, bp, ne⟩ := mro_b c
  have nm : ∀ C, C = He.ga K "InvalidStretch" ∨ C = He.ga K "InvalidText" → ∃ x : Str, (x = "InvalidStretch" ∨ x = "InvalidText") ∧ C = He.ga K x := fun C hC => hC.elim (fun e => ⟨_, .inl rfl, e⟩) fun e => ⟨_, .inr rfl, e⟩
  -- neither is the base
  have nb : ∀ x : Str, (x = "InvalidStretch" ∨ x = "InvalidText") → He.ga K x ≠ He.ga K "WrongValue" := fun x hx e => by
    obtain ⟨⟨cd, h1, h2⟩, _⟩ := mro_ok (mro_x c hx)
    obtain ⟨⟨cd', h1', h2'⟩, _⟩ := mro_ok bv
    rw [e, h1'] at h1
    cases h1
    have z := congrArg List.length (h2.symm.trans h2')
    exact absurd z (by show ¬ (2 + Kin.v.mro.length = 1 + Kin.v.mro.length); omega)
  have n3 : ∀ a : Addr, Kin.v.mro.contains (.ref a) = false := fun a => rfl
  have kk : ∀ x y : Str, (x = "InvalidStretch" ∨ x = "InvalidText") → (y = "InvalidStretch" ∨ y = "InvalidText") → PySem.W.kitOne K (.ref (He.ga K x)) (.ref (He.ga K y)) = some (decide (He.ga K x = He.ga K y)) := fun x y hx hy => by
    unfold PySem.W.kitOne
    rw [beq_ref]
    by_cases e : He.ga K x = He.ga K y
    · rw [if_pos (decide_eq_true e), decide_eq_true e]
    · rw [if_neg (by simpa using e), kit_ok (mro_x c hx) (mro_x c hy)]
      congr 1
      rw [List.contains_cons, List.contains_cons, beq_ref, beq_ref, n3, decide_eq_false (fun z => e z.symm), decide_eq_false (nb y hy), decide_eq_false e] <;> rfl
  refine ⟨gl (al1 "WrongValue" .v) (by unfold alls; exact .tail _ (.tail _ (.head _))), gl (al1 "WrongName" .l) (by unfold alls; exact .tail _ (.tail _ (.tail _ (.head _)))), gl (al1 "NotPossible" .a) (by unfold alls; exact .tail _ (.tail _ (.tail _ (.tail _ (.head _))))),
    gl (al1 "InvalidStretch" .v) (by unfold alls; exact .tail _ (.head _)), gl (al1 "InvalidText" .v) (by unfold alls; exact .head _), He.free_ok X G (c.free _ (by decide +kernel)), fun C hC => ?_, fun C hC => ?_, fun C hC => ?_, fun C hC => ?_, fun C hC => ?_, fun z => ne z.symm⟩
  · obtain ⟨x, hx, rfl⟩ := nm C hC
    unfold PySem.W.exmAny
    rw [exm_ok (mro_x c hx) bv]
    unfold PySem.W.exmAny
    rw [exm_ok (mro_x c hx) bn]
    unfold PySem.W.exmAny
    rw [exm_ok (mro_x c hx) bp]
    unfold PySem.W.exmAny
    have t : (lst0 K x).contains (Value.ref (He.ga K "WrongValue")) = true := by
      rw [List.contains_cons, List.contains_cons, beq_ref, beq_ref, decide_eq_true (rfl : He.ga K "WrongValue" = He.ga K "WrongValue")]
      simp
    show some ((lst0 K x).contains (Value.ref (He.ga K "WrongValue")) || _) = some true
    rw [t] <;> rfl
  · obtain ⟨x, hx, rfl⟩ := nm C hC
    rcases hx with rfl | rfl
    · exact exaB_ok (c.exa (al1 "InvalidStretch" .v) (by unfold alls; exact .tail _ (.head _))).1 c.exs'
    · exact exaB_ok (c.exa (al1 "InvalidText" .v) (by unfold alls; exact .head _)).1 c.exs'
  · obtain ⟨x, hx, rfl⟩ := nm C hC
    rcases hx with rfl | rfl
    · exact (exkB_ok (c.exk (ex1 "InvalidStretch" "given" .v 3) (by unfold exs; exact .tail _ (.head _)))).noF
    · exact (exkB_ok (c.exk (ex1 "InvalidText" "given" .v 2) (by unfold exs; exact .head _))).noF
  · obtain ⟨x, hx, rfl⟩ := nm C hC
    exact kk x _ hx (.inl rfl)
  · obtain ⟨x, hx, rfl⟩ := nm C hC
    exact kk x _ hx (.inr rfl)
theorem rs_of (X : K.In h) (G : h.Ns mainGlobals mg) (s : SaysM F fn K) (c : Parts K) : Rs K mg "InvalidStretch" (He.ga K "InvalidStretch") ∧ Rs K mg "InvalidText" (He.ga K "InvalidText") := by
  have gl : ∀ e ∈ alls, mg e.1 = some (.ref (He.ga K e.1)) := fun e he => He.glo_ok X G (c.exa e he).2
  refine ⟨⟨?_, ?_, (mro_ok (mro_x c (.inl rfl))).2⟩, ⟨?_, ?_, (mro_ok (mro_x c (.inr rfl))).2⟩⟩
  · obtain ⟨fd, Fi⟩ := s.fun_ 28 (st := inClass (topS 3) 0) (p := ("InvalidStretch", some "__init__")) (x := "__init__") (q := "InvalidStretch.__init__") rfl
    refine ⟨⟨_, _, _, _, _, _, fd, exkB_ok (c.exk (ex1 "InvalidStretch" "given" .v 3) (by unfold exs; exact .tail _ (.head _))), .inl rfl, init_of Fi rfl rfl, ?_, ?_⟩, gl (al1 "InvalidStretch" .v) (by unfold alls; exact .tail _ (.head _))⟩
    · obtain ⟨oc, od, kV, doc, pm, an, cdv, ct, osl, rfl, lk, hcd⟩ := Fi.ex
      exact fun u s y => .of_eq rfl
    · obtain ⟨oc, od, kV, doc, pm, an, cdv, ct, osl, rfl, lk, hcd⟩ := Fi.ex
      exact fun u s y => .of_eq rfl
  · rw [sub_ok (mro_x c (.inl rfl))] <;> rfl
  · obtain ⟨fd, Fi⟩ := s.fun_ 27 (st := inClass (topS 2) 0) (p := ("InvalidText", some "__init__")) (x := "__init__") (q := "InvalidText.__init__") rfl
    refine ⟨⟨_, _, _, _, _, _, fd, exkB_ok (c.exk (ex1 "InvalidText" "given" .v 2) (by unfold exs; exact .head _)), .inl rfl, init_of Fi rfl rfl, ?_, ?_⟩, gl (al1 "InvalidText" .v) (by unfold alls; exact .head _)⟩
    · obtain ⟨oc, od, kV, doc, pm, an, cdv, ct, osl, rfl, lk, hcd⟩ := Fi.ex
      exact fun u s y => .of_eq rfl
    · obtain ⟨oc, od, kV, doc, pm, an, cdv, ct, osl, rfl, lk, hcd⟩ := Fi.ex
      exact fun u s y => .of_eq rfl
  · rw [sub_ok (mro_x c (.inr rfl))] <;> rfl
/-- a def's code object -/
theorem code_at {x qual : Str} {st : Stmt} {fd : FuncData} {p : Str × Option Str} {f : Addr} (F : Fun K x qual st f fd) (e : f = He.fAd K p) : ∃ c, fd.code = .ref c ∧ (He.cT K p).1 = c := by
  subst e
  obtain ⟨oc, od, kV, doc, pm, an, cdv, ct, osl, rfl, lk, hcd⟩ := F.ex
  obtain ⟨c, rfl⟩ := He.codeIn_ref hcd
  exact ⟨c, rfl, He.codeOf_eq lk rfl⟩
end
section
variable {P : Program} {w : World} {K : PySem.W.Frag} {h : Heap} {mg : Str → Option Value} {f : Addr}
theorem facts (X : K.In h) (G : h.Ns mainGlobals mg) (hfa : mg ("law" : Str) = some (.ref f)) (s : SaysM F fn K) :
    ∃ fd : FuncData, (∀ (s : Shared) (v : Value), BindsTo s fd ⟨[v], []⟩ [("_law_script", v)]) ∧
      ∀ base : Heap, K.In base → base.Ns mainGlobals mg → (∀ p ∈ tf.map (He.cT K), TabB base mg p.1 p.2) → FnG P w K mg base CX0 10 f fd ["_law_script"] (spLaw K (tabL K)) := by
  have c := partsF s
  have fr : ∀ x : Str, x ∈ frees → mg x = none := fun x hx => He.free_ok X G (c.free x hx)
  have B : Bl mg := ⟨fr _ (by decide +kernel), fr _ (by decide +kernel), fr _ (by decide +kernel), fr _ (by decide +kernel), fr _ (by decide +kernel), fr _ (by decide +kernel), fr _ (by decide +kernel), fr _ (by decide +kernel)⟩
  have fbool := fr "bool" (by decide +kernel)
  have ftuple := fr "tuple" (by decide +kernel)
  have fstr := fr "str" (by decide +kernel)
  have flist := fr "list" (by decide +kernel)
  have fmin := fr "min" (by decide +kernel)
  have fmax := fr "max" (by decide +kernel)
  have nMN : ∃ t, mg "MOST_NUMBER" = some (.int 4000 t) := He.int_ok X G (c.nums' ("MOST_NUMBER", 4000) (.head _))
  have nMD : ∃ t, mg "_DIGITS_AT_ONCE" = some (.int 100 t) := He.int_ok X G (c.nums' ("_DIGITS_AT_ONCE", 100) (.tail _ (.head _)))
  have TH := hx_of X G c
  obtain ⟨RS, RT⟩ := rs_of X G s c
  have SM := Option.isSome_iff_exists.mp c.sm
  have gl : ∀ x : Str, x ∈ funs → mg x = some (.ref (He.ga K x)) := fun x hx => He.glo_ok X G (c.funs' x hx)
  obtain ⟨fd0, F0⟩ := s.fun_ 0 (st := s_is_integer) (p := ("is_integer", none)) (x := "is_integer") (q := "is_integer") rfl
  obtain ⟨fd1, F1⟩ := s.fun_ 1 (st := s_read_number) (p := ("read_number", none)) (x := "read_number") (q := "read_number") rfl
  obtain ⟨fd2, F2⟩ := s.fun_ 2 (st := s_is_stretch) (p := ("is_stretch", none)) (x := "is_stretch") (q := "is_stretch") rfl
  obtain ⟨fd3, F3⟩ := s.fun_ 3 (st := s_need_stretch) (p := ("need_stretch", none)) (x := "need_stretch") (q := "need_stretch") rfl
  obtain ⟨fd4, F4⟩ := s.fun_ 4 (st := s_text_of_stretch) (p := ("text_of_stretch", none)) (x := "text_of_stretch") (q := "text_of_stretch") rfl
  obtain ⟨fd5, F5⟩ := s.fun_ 5 (st := s_stretch_in_text) (p := ("stretch_in_text", none)) (x := "stretch_in_text") (q := "stretch_in_text") rfl
  obtain ⟨fd6, F6⟩ := s.fun_ 6 (st := s_stretch_text) (p := ("stretch_text", none)) (x := "stretch_text") (q := "stretch_text") rfl
  obtain ⟨fd7, F7⟩ := s.fun_ 7 (st := s_read_stretch) (p := ("read_stretch", none)) (x := "read_stretch") (q := "read_stretch") rfl
  obtain ⟨fd8, F8⟩ := s.fun_ 8 (st := s_in_both) (p := ("in_both", none)) (x := "in_both") (q := "in_both") rfl
  obtain ⟨fd9, F9⟩ := s.fun_ 9 (st := s_jar) (p := ("_law_jar", none)) (x := "_law_jar") (q := "_law_jar") rfl
  obtain ⟨fd10, F10⟩ := s.fun_ 10 (st := s_draw) (p := ("_law_draw", none)) (x := "_law_draw") (q := "_law_draw") rfl
  obtain ⟨fd11, F11⟩ := s.fun_ 11 (st := s_pick) (p := ("_law_pick", none)) (x := "_law_pick") (q := "_law_pick") rfl
  obtain ⟨fd12, F12⟩ := s.fun_ 12 (st := s_span) (p := ("_law_span", none)) (x := "_law_span") (q := "_law_span") rfl
  obtain ⟨fd13, F13⟩ := s.fun_ 13 (st := s_whole) (p := ("_law_whole", none)) (x := "_law_whole") (q := "_law_whole") rfl
  obtain ⟨fd14, F14⟩ := s.fun_ 14 (st := s_is_span) (p := ("_law_is_span", none)) (x := "_law_is_span") (q := "_law_is_span") rfl
  obtain ⟨fd15, F15⟩ := s.fun_ 15 (st := s_odd) (p := ("_law_odd", none)) (x := "_law_odd") (q := "_law_odd") rfl
  obtain ⟨fd16, F16⟩ := s.fun_ 16 (st := s_word) (p := ("_law_word", none)) (x := "_law_word") (q := "_law_word") rfl
  obtain ⟨fd17, F17⟩ := s.fun_ 17 (st := s_number) (p := ("_law_number", none)) (x := "_law_number") (q := "_law_number") rfl
  obtain ⟨fd18, F18⟩ := s.fun_ 18 (st := s_told) (p := ("_law_told", none)) (x := "_law_told") (q := "_law_told") rfl
  obtain ⟨fd19, F19⟩ := s.fun_ 19 (st := s_bent) (p := ("_law_bent", none)) (x := "_law_bent") (q := "_law_bent") rfl
  obtain ⟨fd20, F20⟩ := s.fun_ 20 (st := s_heard) (p := ("_law_heard", none)) (x := "_law_heard") (q := "_law_heard") rfl
  obtain ⟨fd21, F21⟩ := s.fun_ 21 (st := s_texts_right) (p := ("_law_texts_right", none)) (x := "_law_texts_right") (q := "_law_texts_right") rfl
  obtain ⟨fd22, F22⟩ := s.fun_ 22 (st := s_both_right) (p := ("_law_both_right", none)) (x := "_law_both_right") (q := "_law_both_right") rfl
  obtain ⟨fd23, F23⟩ := s.fun_ 23 (st := s_right) (p := ("_law_right", none)) (x := "_law_right") (q := "_law_right") rfl
  obtain ⟨fd24, F24⟩ := s.fun_ 24 (st := s_law) (p := ("law", none)) (x := "law") (q := "law") rfl
  obtain ⟨fd25, F25⟩ := s.fun_ 25 (st := s_unit) (p := ("_unit", none)) (x := "_unit") (q := "_unit") rfl
  obtain ⟨fd26, F26⟩ := s.fun_ 26 (st := s_number_with) (p := ("_number_with", none)) (x := "_number_with") (q := "_number_with") rfl
  obtain ⟨c21, hc21, e21⟩ := code_at F21 rfl
  obtain ⟨c22, hc22, e22⟩ := code_at F22 rfl
  obtain ⟨c23, hc23, e23⟩ := code_at F23 rfl
  have e := hfa.symm.trans (gl "law" (by decide +kernel))
  cases e
  refine ⟨fd24, fun s v => ?_, fun base _ _ TB => ?_⟩
  · obtain ⟨oc, od, kV, doc, pm, an, cdv, ct, osl, rfl, lk, hcd⟩ := F24.ex
    exact .of_eq rfl
  have c1 : ∀ {x qual : Str} {st : Stmt} {f : Addr} {fd : FuncData} {p : Str} {sp : Sp} {k : Nat} (F : Fun K x qual st f fd) (G : FnG P w K mg base CX0 k f fd [p] sp) (gm : mg x = some (.ref f))
      (h : ∀ (kV doc pm : Value) (an : Option Addr) (cdv ct u : Value), bindArgs (PySem.W.fnOf x qual (defArgs st) (defBody st) (defScope st) .none kV doc pm an cdv ct) ⟨[u], []⟩ = (pure [(p, u)] : Sem (List (Str × Value)))),
      Call P w K mg base CX0 k x [p] sp := fun F G gm h => Call.of F G gm fun kV doc pm an cdv ct us hl => match us, hl with
        | [u], _ => h kV doc pm an cdv ct u
  have c2 : ∀ {x qual : Str} {st : Stmt} {f : Addr} {fd : FuncData} {p q : Str} {sp : Sp} {k : Nat} (F : Fun K x qual st f fd) (G : FnG P w K mg base CX0 k f fd [p, q] sp) (gm : mg x = some (.ref f))
      (h : ∀ (kV doc pm : Value) (an : Option Addr) (cdv ct u v : Value), bindArgs (PySem.W.fnOf x qual (defArgs st) (defBody st) (defScope st) .none kV doc pm an cdv ct) ⟨[u, v], []⟩ = (pure [(p, u), (q, v)] : Sem (List (Str × Value)))),
      Call P w K mg base CX0 k x [p, q] sp := fun F G gm h => Call.of F G gm fun kV doc pm an cdv ct us hl => match us, hl with
        | [u, v], _ => h kV doc pm an cdv ct u v
  have o1 : ∀ {CX : CXT} {x qual : Str} {st : Stmt} {f : Addr} {fd : FuncData} {p : Str} {sp : Sp} {k : Nat} (F : Fun K x qual st f fd) (G : FnOk P w K mg base CX k f fd [p] sp) (gm : mg x = some (.ref f))
      (h : ∀ (kV doc pm : Value) (an : Option Addr) (cdv ct u : Value), bindArgs (PySem.W.fnOf x qual (defArgs st) (defBody st) (defScope st) .none kV doc pm an cdv ct) ⟨[u], []⟩ = (pure [(p, u)] : Sem (List (Str × Value)))),
      CallO P w K mg base CX k x [p] sp := fun F G gm h => CallO.of F G gm fun kV doc pm an cdv ct us hl => match us, hl with
        | [u], _ => h kV doc pm an cdv ct u
  have o2 : ∀ {CX : CXT} {x qual : Str} {st : Stmt} {f : Addr} {fd : FuncData} {p q : Str} {sp : Sp} {k : Nat} (F : Fun K x qual st f fd) (G : FnOk P w K mg base CX k f fd [p, q] sp) (gm : mg x = some (.ref f))
      (h : ∀ (kV doc pm : Value) (an : Option Addr) (cdv ct u v : Value), bindArgs (PySem.W.fnOf x qual (defArgs st) (defBody st) (defScope st) .none kV doc pm an cdv ct) ⟨[u, v], []⟩ = (pure [(p, u), (q, v)] : Sem (List (Str × Value)))),
      CallO P w K mg base CX k x [p, q] sp := fun F G gm h => CallO.of F G gm fun kV doc pm an cdv ct us hl => match us, hl with
        | [u, v], _ => h kV doc pm an cdv ct u v
  generalize hCS : He.ga K "InvalidStretch" = CS at *
  generalize hCT : He.ga K "InvalidText" = CT at *
  have TBs : ∀ p ∈ ([(c21, (He.cT K ("_law_texts_right", none)).2), (c22, (He.cT K ("_law_both_right", none)).2), (c23, (He.cT K ("_law_right", none)).2)] : List (Addr × Addr)), TabB base mg p.1 p.2 := by
    rw [← e21, ← e22, ← e23]
    exact TB
  obtain ⟨n1, n⟩ := He.ba c.ne
  obtain ⟨n2, n3⟩ := He.ba n
  have ne : ∀ {a b : Addr}, neB a b = true → a ≠ b := fun h e => by
    subst e
    unfold neB at h
    simp at h
  have u1 : ∀ p ∈ tabL K, p.1 = (He.cT K ("_law_texts_right", none)).2 → p.2 = lamN "_law_texts_right" s_texts_right := by
    intro p hp
    unfold tabL at hp
    simp only [List.mem_cons, List.not_mem_nil, or_false] at hp
    rcases hp with rfl | rfl | rfl
    · exact fun _ => rfl
    · exact fun z => absurd z.symm (ne n1)
    · exact fun z => absurd z.symm (ne n2)
  have u2 : ∀ p ∈ tabL K, p.1 = (He.cT K ("_law_both_right", none)).2 → p.2 = lamN "_law_both_right" s_both_right := by
    intro p hp
    unfold tabL at hp
    simp only [List.mem_cons, List.not_mem_nil, or_false] at hp
    rcases hp with rfl | rfl | rfl
    · exact fun z => absurd z (ne n1)
    · exact fun _ => rfl
    · exact fun z => absurd z.symm (ne n3)
  have u3 : ∀ p ∈ tabL K, p.1 = (He.cT K ("_law_right", none)).2 → p.2 = lamN "_law_right" s_right := by
    intro p hp
    unfold tabL at hp
    simp only [List.mem_cons, List.not_mem_nil, or_false] at hp
    rcases hp with rfl | rfl | rfl
    · exact fun z => absurd z (ne n2)
    · exact fun z => absurd z (ne n3)
    · exact fun _ => rfl
  have DII := o1 F0 (ok_is_integer F0 B fbool) (gl "is_integer" (by decide +kernel)) (fun _ _ _ _ _ _ _ => rfl)
  have DUN := CallO.of F25 (ok_unit (P := P) (w := w) (base := base) F25 B nMD) (gl "_unit" (by decide +kernel)) (fun kV doc pm an cdv ct us hl => match us, hl with | [], _ => rfl)
  have DNW := o1 F26 (ok_nw F26 B nMD DUN) (gl "_number_with" (by decide +kernel)) (fun _ _ _ _ _ _ _ => rfl)
  have DRN := o1 F1 (ok_rn F1 DNW) (gl "read_number" (by decide +kernel)) (fun _ _ _ _ _ _ _ => rfl)
  have DIS := o1 F2 (ok_is_stretch F2 B ftuple nMN DII) (gl "is_stretch" (by decide +kernel)) (fun _ _ _ _ _ _ _ => rfl)
  have DNS := o1 F3 (ok_need F3 RS DIS) (gl "need_stretch" (by decide +kernel)) (fun _ _ _ _ _ _ _ => rfl)
  have DTX := o1 F4 (ok_text F4) (gl "text_of_stretch" (by decide +kernel)) (fun _ _ _ _ _ _ _ => rfl)
  have DSI := o1 F5 (ok_sit F5 B fstr ftuple DRN DIS DTX) (gl "stretch_in_text" (by decide +kernel)) (fun _ _ _ _ _ _ _ => rfl)
  have okST := ok_stext (P := P) (w := w) (base := base) F6 DNS DTX
  have DST := o1 F6 (okST) (gl "stretch_text" (by decide +kernel)) (fun _ _ _ _ _ _ _ => rfl)
  have okRD := ok_read (P := P) (w := w) (base := base) F7 RT DSI
  have DRD := o1 F7 (okRD) (gl "read_stretch" (by decide +kernel)) (fun _ _ _ _ _ _ _ => rfl)
  have okIB := ok_both (P := P) (w := w) (base := base) F8 fmax fmin DNS
  have DIB := o2 F8 (okIB) (gl "in_both" (by decide +kernel)) (fun _ _ _ _ _ _ _ _ => rfl)
  have DSTK : CallK P w K mg base (L2.CX P w) 4 "stretch_text" ["stretch"] (spSText CS) ["stretch"] (fun l => l) := by
    refine ⟨⟨_, fd6, okST, (gl "stretch_text" (by decide +kernel)), F6.kp, fun s us hl => ?_⟩, fun r => r⟩
    obtain ⟨oc, od, kV, doc, pm, an, cdv, ct, osl, rfl, lk, hcd⟩ := F6.ex
    match us, hl with
    | [u], _ => exact .of_eq rfl
  have DRDK : CallK P w K mg base (L2.CX P w) 5 "read_stretch" ["text"] (spRead CT) ["text"] (fun l => l) := by
    refine ⟨⟨_, fd7, okRD, (gl "read_stretch" (by decide +kernel)), F7.kp, fun s us hl => ?_⟩, fun r => r⟩
    obtain ⟨oc, od, kV, doc, pm, an, cdv, ct, osl, rfl, lk, hcd⟩ := F7.ex
    match us, hl with
    | [u], _ => exact .of_eq rfl
  have DIBK : CallK P w K mg base (L2.CX P w) 4 "in_both" ["stretch", "other_stretch"] (spBoth CS) ["other_stretch", "stretch"] (List.reverse) := by
    refine ⟨⟨_, fd8, okIB, (gl "in_both" (by decide +kernel)), F8.kp, fun s us hl => ?_⟩, vals_rev⟩
    obtain ⟨oc, od, kV, doc, pm, an, cdv, ct, osl, rfl, lk, hcd⟩ := F8.ex
    match us, hl with
    | [u, v], _ => exact .of_eq rfl
  have DJ := c2 F9 (.of (ok_jar F9 B)) (gl "_law_jar" (by decide +kernel)) (fun _ _ _ _ _ _ _ _ => rfl)
  have DD := c2 F10 (.of (ok_draw F10 B)) (gl "_law_draw" (by decide +kernel)) (fun _ _ _ _ _ _ _ _ => rfl)
  have DP := c2 F11 (ok_pick F11 B DD) (gl "_law_pick" (by decide +kernel)) (fun _ _ _ _ _ _ _ _ => rfl)
  have DSP := c1 F12 (ok_span F12 fmin DD DP) (gl "_law_span" (by decide +kernel)) (fun _ _ _ _ _ _ _ => rfl)
  have DWH := o1 F13 (ok_whole F13 B fbool) (gl "_law_whole" (by decide +kernel)) (fun _ _ _ _ _ _ _ => rfl)
  have DSN := o1 F14 (ok_is_span F14 B ftuple DWH) (gl "_law_is_span" (by decide +kernel)) (fun _ _ _ _ _ _ _ => rfl)
  have DOD := c2 F15 (ok_odd F15 fstr DP) (gl "_law_odd" (by decide +kernel)) (fun _ _ _ _ _ _ _ _ => rfl)
  have DWD := o1 F16 (ok_word F16 fstr) (gl "_law_word" (by decide +kernel)) (fun _ _ _ _ _ _ _ => rfl)
  have DNU := o1 F17 (ok_num F17 B) (gl "_law_number" (by decide +kernel)) (fun _ _ _ _ _ _ _ => rfl)
  have DTO := o1 F18 (ok_told F18 B fstr DNU) (gl "_law_told" (by decide +kernel)) (fun _ _ _ _ _ _ _ => rfl)
  have DBE := c2 F19 (ok_bent F19 B flist DD DP) (gl "_law_bent" (by decide +kernel)) (fun _ _ _ _ _ _ _ _ => rfl)
  have DTR := c2 F21 (ok_tr F21 hc21 B SM F20 (gl "_law_heard" (by decide +kernel)) TH (TBs _ (.head _)) (.head _) u1 DWD DST DSTK DBE DTO DRD DRDK) (gl "_law_texts_right" (by decide +kernel)) (fun _ _ _ _ _ _ _ _ => rfl)
  have DBR := c2 F22 (ok_br F22 hc22 B fmax fmin SM F20 (gl "_law_heard" (by decide +kernel)) TH (TBs _ (.tail _ (.head _))) (.tail _ (.head _)) u2 DSN DIB DIBK) (gl "_law_both_right" (by decide +kernel)) (fun _ _ _ _ _ _ _ _ => rfl)
  have DRT := c1 F23 (ok_rt F23 hc23 B SM F20 (gl "_law_heard" (by decide +kernel)) TH (TBs _ (.tail _ (.tail _ (.head _)))) (.tail _ (.tail _ (.head _))) u3 DSP DOD DTR DBR DSN DWD DST) (gl "_law_right" (by decide +kernel)) (fun _ _ _ _ _ _ _ => rfl)
  exact ok_law F24 B DJ DRT
end
end K02
namespace K02
open PySem PySem.Spec PyProof.Rows L2 Tc
open LamX (Tabs TabS)
theorem tabs0 {K : PySem.W.Frag} {H : Hp} (h : ∀ p ∈ tf.map (He.cT K), H p.2 = some (.tbl #[])) : Tabs (tabL K) H := by
  intro p hp
  unfold tabL at hp
  simp only [List.mem_cons, List.not_mem_nil, or_false] at hp
  rcases hp with rfl | rfl | rfl
  · exact TabS.nil (h (He.cT K ("_law_texts_right", none)) (.head _))
  · exact TabS.nil (h (He.cT K ("_law_both_right", none)) (.tail _ (.head _)))
  · exact TabS.nil (h (He.cT K ("_law_right", none)) (.tail _ (.tail _ (.head _))))
end K02
open PySem PySem.W PySem.Calls PyProof.Rows
theorem PySem.Challenge.cw_toldcounts_k02_whole_stretches_and_their_holds : PySem.Challenge.rw_toldcounts_k02_whole_stretches_and_their.Holds := by
  w_on; o_law
  refine HandSHeadRun.head_any (r := OpenLaw.row PySem.Challenge.rw_toldcounts_k02_whole_stretches_and_their) (q := view K02.R.prog [37]) (H := K02.hk) (ob := K02.ob)
    (M := 14000) (loose := K02.loose) (d := HandSHeadRun.topDef K02.R.prog 37) (kwd := []) K02.ob_eq
    (by kernel_rfl) (fun s => by kernel_rfl) K02.run (by kernel_rfl) (by kernel_rfl) (by kernel_rfl) (by rfl) (by first | assumption | decide +kernel) (by decide +kernel)
    ⟨rfl, rfl, rfl, rfl, rfl, by decide +kernel⟩ ?hw ?hc
  case hw => w_witness2
  case hc =>
    refine Tc.walk_endTG (l := PySem.Challenge.rw_toldcounts_k02_whole_stretches_and_their) (n := 63) (k := 10) (x := "_law_script") (CX := fun _ => L2.CX0)
      rfl (by decide) (by kernel_rfl) ⟨rfl, by decide, by decide⟩ ?F (fun _ _ _ _ _ z => z)
    intro w mg fa h Y G hmg0
    obtain ⟨K, KX, c⟩ := Y
    have nm : (HandSHeadRun.topDef K02.R.prog 37).name = ("law" : PySem.Str) := by kernel_rfl
    rw [nm] at hmg0
    obtain ⟨fd, hb, hF⟩ := K02.facts (P := (PySem.Challenge.rw_toldcounts_k02_whole_stretches_and_their).prog) (w := w) KX G hmg0 c.core
    refine ⟨K, fd, K02.tf.map (He.cT K), K02.spLaw K (K02.tabL K), KX, hb, ⟨fun p hp => ?_, fun p hp => ?_, fun p hp => ?_⟩, hF, fun H a ns hl hT hS => ⟨a, ns, rfl, hS, hl, K02.tabs0 hT, fun _ => rfl⟩⟩
    · obtain ⟨q, hq, rfl⟩ := List.mem_map.mp hp
      exact c.empty q hq
    · obtain ⟨q, hq, rfl⟩ := List.mem_map.mp hp
      exact c.out q hq
    · obtain ⟨q, hq, rfl⟩ := List.mem_map.mp hp
      exact PySem.W.codeHd_of_K KX (c.hd q hq)
