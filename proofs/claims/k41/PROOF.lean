import PyProof.Rows.All
import Wide.All
import OpenK.AllK
import Wide.FinOn
import HandS.ForMost
import HandS.ForExc
import HandS.ExcInit
import HandS.ExcField
import HandS.IsInst
import HandS.StrMore
import HandS.FStr
import HandS.Conv
import KE.KExcInit
import HandS.ExcIs
import KE.KExcIs
import HandS.ExcValue
import PyProof.ExcBaseAll.ValueError
import PyProof.ExcBaseAll.LookupError
import PyProof.ExcBaseAll.ArithmeticError
import KE.KStateDown
import HandS.Defaults
import HandS.Head0
import HandS.Head1
import HandS.Head2
import HandS.HeadHook1
import KE.KTryMore
import HandS.Exc
import HandS.Lambda
import HandS.WordsExc
import HandS.SetFor
import HandS.Evl
import PyProof.EqKinds
import HandS.Walk
import PyProof.Rows.Chain
import HandS.HeadHook4
import HandS.EndTab
import HandS.Text
import KE.IntTextText
import PyProof.Rows.RegFStrParts
import PyProof.ListStr
import HandS.TryMany
import HandS.HeadHook2
import HandS.WideBits
import HandS.NoneIn
import HandS.HeadEnd
import PySem.Challenge.RW_toldcounts_k41_whole_totals_and_people_f
set_option Elab.async false
set_option linter.all false
set_option maxRecDepth 100000
set_option maxHeartbeats 0
/-! Defs that may show things: no repr runs around them (the guards are known to be none). -/
namespace Tc
open PySem PySem.Spec PyProof.Rows L2

/-- as a def's promise, for callers that no repr runs around -/
structure FnG (P : Program) (w : World) (K : PySem.W.Frag) (mg : Str → Option Value) (base : Heap)
    (CX : CXT) (k : Nat) (f : Addr) (fd : FuncData) (ps : List Str) (sp : Sp) : Prop where
  len : ∀ vs H Q E, sp vs H Q E → vs.length = ps.length
  run : ∀ (A : Around) (outer : List Env) (s : Shared) (H : Hp) (args : Args) (us : List Value)
    (vs : List V) (Q : VK) (E : XK), Room k A → A.guards = some [] →
    Env0 P w K mg base A outer s H → BindsTo s fd args (ps.zip us) → Vals vs us → sp vs H Q E →
    codeAny (model P w) A (.call (.ref f) args) (CR CX outer P w H s Q E) s

theorem FnG.of {P : Program} {w : World} {K : PySem.W.Frag} {mg : Str → Option Value} {base : Heap}
    {CX : CXT} {k : Nat} {f : Addr} {fd : FuncData} {ps : List Str} {sp : Sp}
    (F : FnOk P w K mg base CX k f fd ps sp) : FnG P w K mg base CX k f fd ps sp :=
  ⟨F.len, fun A o s H args us vs Q E hr _ => F.run A o s H args us vs Q E hr⟩

theorem FnG.mono {P : Program} {w : World} {K : PySem.W.Frag} {mg : Str → Option Value} {base : Heap}
    {CX : CXT} {j k : Nat} {f : Addr} {fd : FuncData} {ps : List Str} {sp : Sp}
    (F : FnG P w K mg base CX j f fd ps sp) (h : j ≤ k) : FnG P w K mg base CX k f fd ps sp :=
  ⟨F.len, fun A o s H args us vs Q E hr => F.run A o s H args us vs Q E (hr.mono h)⟩

section
variable {P : Program} {w : World} {K : PySem.W.Frag} {mg : Str → Option Value} {base : Heap}
theorem Fun.okG {CX : CXT} {x qual : Str} {st : Stmt} {f : Addr} {fd : FuncData} {N ps : List Str}
    {k : Nat} {sp : Sp} (F : Fun K x qual st f fd) (S : FnScope N ps (defScope st))
    (len : ∀ vs H Q E, sp vs H Q E → vs.length = ps.length)
    (hbody : ∀ (cdv : Value) (A : Around) (outer : List Env) (s : Shared) (H : Hp) (vs : List V)
      (Q : VK) (E : XK), Room k (A.deeper (envOfC qual (defScope st) s.heap.objs.size f cdv)) →
      (A.deeper (envOfC qual (defScope st) s.heap.objs.size f cdv)).guards = some [] →
      sp vs H Q E →
      ∃ t, PSs (cxOf CX P w K mg base N qual (defScope st) f cdv A outer s H E) (defBody st) t ∧
        t { nx := fun _ H' => Q .non H', rt := Q } (start N vs) H) :
    FnG P w K mg base CX (k + 1) f fd ps sp := by
  obtain ⟨oc, od, kV, doc, pm, an, cdv, ct, osl, rfl, lk, hcd⟩ := F.ex
  refine ⟨len, ?_⟩
  intro A outer s H args us vs Q E hr hgd e0 hb r hsp
  have vl := len _ _ _ _ hsp
  have kin : K.In s.heap := e0.mod.kin.keeps (fun b o e => (e0.bs b o e).1)
  have nlim : s.heap.NoLimit := e0.mod.nolimit.keeps (fun b o e => (e0.bs b o e).1)
  have kinds : ∀ y ∈ ps.zip us, (defScope st).names.lookup y.1 = some .local ∨
      ((defScope st).names.lookup y.1 = some .cell ∧
        ((cellsFrom (s.heap.objs.size + 1) (defScope st).names []).lookup y.1).isSome = true) := by
    rintro ⟨n, v⟩ hy
    cases S.par n (List.of_mem_zip hy).1 with
    | inl q => exact .inl q
    | inr q => exact .inr ⟨q, PySem.W.cellsFrom_some _ _ _ (.inl q)⟩
  refine codeAny_call_function hr.depth (kin _ _ lk) rfl S.co S.gen rfl
    (PySem.W.codeRec_of kin hcd) (hb _ _ _ _ ?_)
  refine wpAny_newFunctionEnv_cells S.kind kinds (fun env he s1 x => ?_)
  subst he
  refine ⟨nlim.keeps x.toInCall.keep, codeAny_func ?_⟩
  obtain ⟨t, ht, hq⟩ := hbody cdv A outer s H vs Q E (hr.deeper _) hgd hsp
  have I := inv_start (CX := CX) (P := P) (w := w) (mg := mg) (base := base) (E := E) S hr.hd e0 vl r x
  refine wpAny_mono (ht.run [] s1 (start N vs) H _ I hq) (fun fl s' hs => ?_) (fun e s' hs => hs)
  have close : ∀ {σ' : L2.St} {H' : Hp} {v : V} {u : Value},
      Inv (cxOf CX P w K mg base N qual (defScope st) f cdv A outer s H E) [] σ' H' s' →
      RelV v u → Q v H' → CE outer P w H s Q u s' := by
    intro σ' H' v u J rv q
    exact ⟨v, H', J.os, J.bare, J.base, J.hok, rv, q⟩
  cases fl with
  | ret u => obtain ⟨v, σ', H', J, rv, q⟩ := hs; exact close J rv q
  | next => obtain ⟨σ', H', J, q⟩ := hs; exact close (v := V.non) (u := Value.none) J rfl q
  | brk => obtain ⟨_, _, _, q⟩ := hs; exact False.elim q
  | cont => obtain ⟨_, _, _, q⟩ := hs; exact False.elim q
end

section
variable {X : Cx} {CX : CXT} {k : Nat} {f : Addr} {fd : FuncData} {ps : List Str} {sp : Sp}
  {dvs : List V} {ds : List Value} {E : XK} {x : Str} {p pos : Pos} {e : Expr} {es : List Expr} {t : TA}

theorem run_fnG {pins : List (Addr × Obj)} {σ : L2.St} {H : Hp} {s : Shared} {Q : VK}
    {us : List Value} {vs : List V} (F : FnG X.prog X.w X.K X.mg X.base CX k f fd ps sp)
    (hr : Room k X.A) (hgd : X.A.guards = some []) (hb : Binds X.K fd ps ds) (hd : Vals dvs ds)
    (hx : Passes CX X E) (I : Inv X pins σ H s) (r : Vals vs us) (h : sp (vs ++ dvs) H Q E) :
    wpAny (model X.prog X.w) X.A (call (.ref f) us) (EP X pins σ Q) X.xe s := by
  have both : Vals (vs ++ dvs) (us ++ ds) := r.append hd
  have hl : (us ++ ds).length = ps.length := both.length ▸ F.len _ _ _ _ h
  have main := F.run X.A X.stack s H ⟨us, []⟩ (us ++ ds) (vs ++ dvs) Q E hr hgd I.env0
    (hb s us I.kIn hl) both h
  refine wpAny_call (codeAny_mono main ?_)
  intro res s' hq
  cases res with
  | error er => exact hx pins σ H s er s' I hq
  | ok fl =>
    cases fl with
    | ret u => exact I.after hq
    | next | brk | cont => exact False.elim hq

theorem pe_callG (F : FnG X.prog X.w X.K X.mg X.base CX k f fd ps sp) (hr : Room k X.A)
    (hgd : X.A.guards = some []) (hg : Gl X x) (hm : X.mg x = some (.ref f))
    (hk : PySem.W.keepIn X.K (.ref f) = true) (hb : Binds X.K fd ps ds) (hd : Vals dvs ds)
    (hx : Passes CX X E) (ha : PA X (e :: es) t)
    (hdb : (x == ("__debug__" : Str)) = false := by decide)
    (he : starEach (e :: es) X.env = (false, eval e X.env) :: starEach es X.env := by rfl)
    (hpl : (backTo pos (starEach es X.env)).any (·.1) = false := by rfl) :
    PE X (.Call (.Name x p) (e :: es) [] pos) (tCall sp dvs E t) := by
  constructor
  intro pins s σ H Q I h
  have args := ha.run pos pins s σ H _ I h
  refine wpAny_Call_Name_kw (ld_glob I hg hm ?_ hdb)
  refine PySem.W.callWith_K (h₀ := X.base) I.ok.mod.kin hk (thn args ?_) he hpl
  rintro us s1 ⟨vs, H1, I1, r, q⟩
  exact ⟨I1.kIn, run_fnG F hr hgd hb hd hx I1 r q⟩
end
end Tc
/-! Data at any depth, dicts too; what repr makes of them. -/
namespace Tc
open PySem PySem.Spec PyProof.Rows L2

def kD : Key → PyData
  | .inl i => .int i
  | .inr x => .str x

mutual
/-- the value is this data, all of it tracked -/
inductive Dv (H : Hp) : V → PyData → Prop
  | non : Dv H .non .none
  | bl (b : Bool) : Dv H (.bl b) (.bool b)
  | int (i : Int) : Dv H (.int i) (.int i)
  | str (x : Str) : Dv H (.str x) (.str x)
  | lst {a : Addr} {xs : List V} {ds : List PyData} : Rd H a (.lst xs) → DvAll H xs ds → Dv H (.ref a) (.list ds)
  | tup {a : Addr} {xs : List V} {ds : List PyData} : Rd H a (.tup xs) → DvAll H xs ds → Dv H (.ref a) (.tuple ds)
  | dct {a : Addr} {kvs : List (Key × V)} {ds : List (PyData × PyData)} : Rd H a (.dK kvs) → DvKv H kvs ds → Dv H (.ref a) (.dict ds)
inductive DvAll (H : Hp) : List V → List PyData → Prop
  | nil : DvAll H [] []
  | cons {v : V} {vs : List V} {d : PyData} {ds : List PyData} : Dv H v d → DvAll H vs ds → DvAll H (v :: vs) (d :: ds)
inductive DvKv (H : Hp) : List (Key × V) → List (PyData × PyData) → Prop
  | nil : DvKv H [] []
  | cons {k : Key} {v : V} {kvs : List (Key × V)} {d : PyData} {ds : List (PyData × PyData)} : Dv H v d → DvKv H kvs ds → DvKv H ((k, v) :: kvs) ((kD k, d) :: ds)
end

theorem rd_ne {H : Hp} {a : Addr} {u : HO} (h : Rd H a u) (hs : H sysModules = none) : a ≠ sysModules := by
  rintro rfl
  rcases h with h | ⟨o, h⟩ <;> (rw [hs] at h; cases h)

section
variable {X : Cx} {pins : List (Addr × Obj)} {σ : L2.St} {H : Hp} {s : Shared}
mutual
theorem Dv.reads (I : Inv X pins σ H s) (hs : H sysModules = none) : ∀ {v : V} {d : PyData}, Dv H v d → ∀ u, RelV v u →
    ∃ as, Reads s.heap u d as ∧ sysModules ∉ as
  | _, _, .non, _, r => by cases r; exact ⟨_, Reads.none, by simp⟩
  | _, _, .bl b, _, r => by cases r; exact ⟨_, Reads.bool b, by simp⟩
  | _, _, .int i, _, r => by obtain ⟨t, rfl⟩ := r; exact ⟨_, Reads.int i t, by simp⟩
  | _, _, .str x, _, r => by obtain ⟨t, rfl⟩ := r; exact ⟨_, Reads.str x t, by simp⟩
  | _, _, .lst h ha, _, r => by
    cases r
    obtain ⟨its, rv, ⟨o, n, ho, hc, _, hd⟩, _⟩ := I.list (.inl h)
    obtain ⟨as, hr, hn⟩ := DvAll.reads I hs ha _ rv
    exact ⟨_, Reads.list ho hc hd hr, by simpa using ⟨(rd_ne h hs).symm, hn⟩⟩
  | _, _, .tup h ha, _, r => by
    cases r
    obtain ⟨its, rv, ⟨o, ho, hc, n, hd⟩, _⟩ := I.tuple (.inl h)
    obtain ⟨as, hr, hn⟩ := DvAll.reads I hs ha _ rv
    exact ⟨_, Reads.tuple ho hc hd hr, hn⟩
  | _, _, .dct (a := a) h ha, _, r => by
    cases r
    obtain ⟨_, _, vs, rk, o, es, ep, ho, hx, hd, _, hp, _⟩ := h.ok I.hok
    obtain ⟨as, bs, h1, h2, n1, n2⟩ := DvKv.reads I hs ha _ rk _ hp
    exact ⟨_, Reads.dict ho hx.1 hd h1 h2, by
      simp only [List.cons_append, List.mem_cons, List.mem_append, not_or]
      exact ⟨(rd_ne h hs).symm, n1, n2⟩⟩
theorem DvAll.reads (I : Inv X pins σ H s) (hs : H sysModules = none) : ∀ {vs : List V} {ds : List PyData}, DvAll H vs ds → ∀ us, Vals vs us →
    ∃ as, ReadsAll s.heap us ds as ∧ sysModules ∉ as
  | _, _, .nil, _, r => by cases r; exact ⟨_, ReadsAll.nil, by simp⟩
  | _, _, .cons h1 h2, _, r => by
    cases r with
    | cons r1 r2 =>
      obtain ⟨as, q1, n1⟩ := Dv.reads I hs h1 _ r1
      obtain ⟨bs, q2, n2⟩ := DvAll.reads I hs h2 _ r2
      exact ⟨_, ReadsAll.cons q1 q2, by simpa using ⟨n1, n2⟩⟩
theorem DvKv.reads (I : Inv X pins σ H s) (hs : H sysModules = none) : ∀ {kvs : List (Key × V)} {ds : List (PyData × PyData)}, DvKv H kvs ds → ∀ vs, KV kvs vs → ∀ es, Pairs (mixKind X.prog X.w) es vs →
    ∃ as bs, ReadsAll s.heap (es.map (·.key)) (ds.map (·.1)) as ∧ ReadsAll s.heap (es.map (·.val)) (ds.map (·.2)) bs ∧ sysModules ∉ as ∧ sysModules ∉ bs
  | _, _, .nil, _, r, _, p => by
    cases r; cases p
    exact ⟨_, _, ReadsAll.nil, ReadsAll.nil, by simp, by simp⟩
  | _, _, .cons (k := k) h1 h2, _, r, _, p => by
    cases r with
    | cons r1 r2 =>
      cases p with
      | @cons e0 kv0 es0 kvs0 p1 p2 p3 =>
        obtain ⟨rk, rv⟩ := r1
        obtain ⟨as, q1, n1⟩ := Dv.reads I hs h1 _ rv
        obtain ⟨as', bs', q2, q3, n2, n3⟩ := DvKv.reads I hs h2 _ r2 _ p3
        have hk : ∃ cs, Reads s.heap e0.key (kD k) cs ∧ sysModules ∉ cs := by
          have p1' := p1
          rw [← rk, mixKind_is] at p1'
          rcases keyIs_shape p1' with ⟨i, t, e1, e2⟩ | ⟨x, t, e1, e2⟩
          · dsimp only at e1
            subst e1
            exact ⟨[], by rw [e2]; exact Reads.int i t, by simp⟩
          · dsimp only at e1
            subst e1
            exact ⟨[], by rw [e2]; exact Reads.str x t, by simp⟩
        obtain ⟨cs, hk1, hk2⟩ := hk
        exact ⟨_, _, ReadsAll.cons hk1 q2, ReadsAll.cons (show Reads s.heap e0.val _ as by rw [p2]; exact q1) q3, by simpa using ⟨hk2, n2⟩, by simpa using ⟨n1, n3⟩⟩
end
end

/-- repr(x) -/
def rRepr : List V → Hp → VK → Prop := fun xs H Q => ∃ v d, xs = [v] ∧ Dv H v d ∧ d.showable = true ∧ d.depth ≤ 100 ∧
  d.shown.length ≤ sizeLine ∧ Q (.str d.shown) H
theorem call_repr {X : Cx} {k : Nat} (hr : Room k X.A) (hgd : X.A.guards = some []) (hsm : ∃ o, X.K.lookup sysModules = some o) :
    CallR X (.builtin "repr") rRepr := by
  intro pins s σ H xs us Q I r h
  obtain ⟨v, d, rfl, hv, hs, hd, hl, q⟩ := h
  obtain ⟨u, rfl, ru⟩ := vals1 r
  have hun := hr.un
  have sm : H sysModules = none := by
    obtain ⟨o, ho⟩ := hsm
    exact I.bs _ _ (I.ok.mod.kin _ _ ho) |>.2
  obtain ⟨as, rd, na⟩ := Dv.reads I sm hv u ru
  cases hv with
  | non =>
    cases ru
    exact PySem.P.repr_of_none ⟨.str _, H, I.tok _, ⟨_, rfl⟩, q⟩
  | bl b =>
    cases ru
    exact PySem.P.repr_of_bool ⟨.str _, H, I.tok _, ⟨_, rfl⟩, q⟩
  | int i =>
    obtain ⟨t, rfl⟩ := ru
    exact PySem.P.repr_of_int (by simpa [PyData.showable] using hs) ⟨.str _, H, I.tok _, ⟨_, rfl⟩, q⟩
  | str x =>
    obtain ⟨t, rfl⟩ := ru
    exact PySem.P.repr_of_str ⟨.str _, H, I.tok _, ⟨_, rfl⟩, q⟩ (by simpa [PyData.shown] using hl)
  | lst _ _ | tup _ _ | dct _ _ =>
    cases ru
    refine repr_of_reads' rd hs (fun _ => na) hgd (by omega) (fun _ _ e => e) (fun h' u tk hk => ?_) hl
    exact ⟨.str _, H, I.kept (t' := tk) hk, ⟨_, rfl⟩, q⟩
end Tc
/-! The law's call, where the guards are known to be none. -/
namespace Tc
open PySem PySem.Spec PyProof.Rows L2

section
variable {P : Program} {w : World} {K : PySem.W.Frag} {mg mb : Str → Option Value} {CX : CXT}
  {k : Nat} {fa a : Addr} {fd : FuncData} {x : Str} {sp : Sp} {s₁ : Shared} {vs : List Value} {ns : List Int}

/-- what must hold behind the law's call -/
abbrev Behind (s₁ : Shared) : Result → Shared → Prop := fun r s' =>
  r = .ok (.ret (.bool true)) ∧ OldK s₁.heap s'.heap ∧ s'.os = s₁.os ∧ AllBare s'.gens

/-- the call, from a heap in which at most the script is tracked -/
theorem call_from (KX : K.In s₁.heap) (hns : s₁.heap.Ns mainGlobals mg) (hb : s₁.heap.Ns builtinsNs mb)
    (hbb : ∀ y : Str, y ≠ "__name__" → mb y = bootBuiltins y) (hlim : s₁.heap.NoLimit) (hg : s₁.gens = #[])
    (ha : s₁.heap.get? a = some { cls := .type "list", data := .seq vs.toArray }) (hr : Room k callerA)
    (F : ∀ base : Heap, K.In base → base.Ns mainGlobals mg → FnG P w K mg base CX k fa fd [x] sp)
    (hbind : ∀ (s : Shared) (u : Value), BindsTo s fd ⟨[u], []⟩ [(x, u)])
    (hCX : ∀ H e s', CX [] H s₁ (fun _ _ _ => False) e s' → False)
    (H : Hp) (hO : Only H) (hsp : sp [.ref a] H (fun v _ => v = .bl true) fun _ _ _ => False)
    (hok : HOk P w H s₁.heap) (hA : ∀ b, H b ≠ none → b = a) (hK : H a ≠ none → K.lookup a = none) :
    codeAny (model P w) callerA (.call (.ref fa) ⟨[.ref a], []⟩) (Behind s₁) s₁ := by
  have free : ∀ {b : Addr} {o : Obj}, s₁.heap.get? b = some o → (b = a → False) → H b = none := by
    intro b o _ hb
    cases q : H b with
    | none => rfl
    | some u => exact (hb (hA b (by rw [q]; exact Option.some_ne_none u))).elim
  have hidden : ∀ {b : Addr} {o : Obj}, s₁.heap.get? b = some o → H b = none →
      (hidT s₁.heap H).get? b = some o := fun e n => hidT_get e n
  have ofDict : ∀ {b : Addr} {o : Obj} {es : Array DictEntry} {ep : Nat},
      s₁.heap.get? b = some o → o.data = .dict es ep → H b = none := by
    intro b o es ep e d
    refine free e ?_
    rintro rfl
    rw [ha] at e
    cases e
    cases (show Data.seq vs.toArray _ = Data.dict es ep from d)
  have names : ∀ {b : Addr} {m : Str → Option Value}, s₁.heap.Ns b m → (hidT s₁.heap H).Ns b m := by
    rintro b m ⟨o, es, ep, e, d, r⟩
    exact ⟨o, es, ep, hidden e (ofDict e d), d, r⟩
  have written : K.In (hidT s₁.heap H) := by
    intro b o e
    refine hidden (KX b o e) ?_
    cases q : H b with
    | none => rfl
    | some u =>
      have eb : b = a := hA b (by rw [q]; exact Option.some_ne_none u)
      subst eb
      rw [hK (by rw [q]; exact Option.some_ne_none u)] at e
      cases e
  obtain ⟨mc, lim1, lim2⟩ := hlim
  have modl : Mod K mg (hidT s₁.heap H) := ⟨written, names hns, ⟨mb, names hb, hbb⟩, mc, names lim1, lim2⟩
  have e0 : Env0 P w K mg (hidT s₁.heap H) callerA [] s₁ H :=
    ⟨rfl, modl, fun b o e => of_hidT e, Nat.le_of_eq (hidT_size _ _), trivial,
      fun b h => (List.not_mem_nil (show b ∈ ([] : List Addr) from h)).elim, hok, .of_eq hg⟩
  have run := (F _ written (names hns)).run callerA [] s₁ H ⟨[.ref a], []⟩ [.ref a] [.ref a] _ _ hr rfl e0
    (hbind s₁ (.ref a)) (.cons rfl .nil) hsp
  refine codeAny_mono run ?_
  intro r s' h
  rcases r with e | fl
  · exact (hCX H e s' h).elim
  cases fl with
  | next | brk | cont => exact False.elim h
  | ret u =>
    obtain ⟨v, H', os, bare, un, hok', rv, q⟩ := h
    have hv : v = .bl true := q
    subst hv
    have hu : u = Value.bool true := rv
    subst hu
    refine ⟨rfl, OldK.of_keep (fun b o e => ?_), os, bare⟩
    cases q : H b with
    | none =>
      refine un.keep b o e q (fun z => ?_) (fun z => nomatch z)
      exact nomatch (show b ∈ ([] : List Addr) from z)
    | some u =>
      rcases hO b with z | ⟨ob, xs, z⟩
      · rw [q] at z
        cases z
      · have now := (hok b _ z).1
        have later := (hok' b _ (un.frzs b ob _ z)).1
        rw [e] at now
        cases now
        exact later

theorem law_callG (KX : K.In s₁.heap) (hns : s₁.heap.Ns mainGlobals mg) (hb : s₁.heap.Ns builtinsNs mb)
    (hbb : ∀ y : Str, y ≠ "__name__" → mb y = bootBuiltins y) (hlim : s₁.heap.NoLimit) (hg : s₁.gens = #[])
    (ha : s₁.heap.get? a = some { cls := .type "list", data := .seq vs.toArray }) (hi : IntsAre vs ns)
    (hl : ns.length ≤ sizeLine) (hr : Room k callerA)
    (F : ∀ base : Heap, K.In base → base.Ns mainGlobals mg → FnG P w K mg base CX k fa fd [x] sp)
    (hbind : ∀ (s : Shared) (u : Value), BindsTo s fd ⟨[u], []⟩ [(x, u)])
    (hsp : ∀ H : Hp, Only H → SqL K H a (ns.map V.int) → sp [.ref a] H (fun v _ => v = .bl true) fun _ _ _ => False)
    (hCX : ∀ H e s', CX [] H s₁ (fun _ _ _ => False) e s' → False) :
    codeAny (model P w) callerA (.call (.ref fa) ⟨[.ref a], []⟩) (Behind s₁) s₁ := by
  have rv := vals_ints hi
  have main := fun H hO hq => call_from (sp := sp) KX hns hb hbb hlim hg ha hr F hbind hCX H hO hq
  cases hk : K.lookup a with
  | some o =>
    have e := KX a o hk
    rw [ha] at e
    cases e
    have h0 : ∀ b : Addr, (none : Option HO) ≠ none → b = a := fun b z => absurd rfl z
    have lv : vs.toArray.size ≤ sizeLine := by
      rw [List.size_toArray, hi.length]
      exact hl
    refine main (fun _ => none) (fun _ => .inl rfl) (hsp _ (fun _ => .inl rfl) ?_)
      (fun b u z => nomatch (show (none : Option HO) = some u from z)) h0 (fun z => absurd rfl z)
    exact .inr ⟨_, vs.toArray, _, hk, rfl, rfl, rfl, lv, by simpa using rv⟩
  | none =>
    let ob : Obj := { cls := .type "list", data := .seq vs.toArray }
    let H : Hp := fun b => if b = a then some (.frz ob (.lst (ns.map V.int))) else none
    have at_a : H a = some (.frz ob (.lst (ns.map V.int))) := if_pos rfl
    have off : ∀ {b : Addr}, b ≠ a → H b = none := fun hb => if_neg hb
    have only : Only H := by
      intro b
      by_cases hb : b = a
      · rw [hb]
        exact .inr ⟨_, _, at_a⟩
      · exact .inl (off hb)
    refine main H only (hsp H only (.inl (.inr ⟨ob, at_a⟩))) (fun b u z => ?_) (fun b z => ?_) (fun _ => hk)
    · by_cases hb : b = a
      · subst hb
        rw [at_a] at z
        cases z
        exact ⟨ha, by rw [List.length_map]; exact hl, vs, _, rv, ha⟩
      · rw [off hb] at z
        cases z
    · by_cases hb : b = a
      · exact hb
      · exact absurd (off hb) z
end

/-- the end of a law's row: as the layer's own, its def a FnG -/
theorem walk_ofG {l : PySem.W.OpenLaw} {n k : Nat} {q : Program} {loose : List Str}
    {XP : (Str → Option Value) → Heap → Prop} {YP : World → Heap → Prop} {d : DefRec}
    {K : Params → PySem.W.Frag} {CX : World → CXT} {sp : World → Sp} {x : Str}
    (hn : l.most = some n) (hn2 : n ≤ sizeLine) (hdf : d.params.defaults = []) (hr : Room k callerA)
    (hY : ∀ (w : World) (h : Heap), YP w h → (K w.params).In h)
    (F : ∀ (w : World) (mg : Str → Option Value) (fa : Addr) (h : Heap), (K w.params).In h →
      h.Ns mainGlobals mg → mg d.name = some (.ref fa) →
      ∃ fd : FuncData, (∀ (s : Shared) (u : Value), BindsTo s fd ⟨[u], []⟩ [(x, u)]) ∧
        ∀ base : Heap, (K w.params).In base → base.Ns mainGlobals mg →
          FnG l.prog w (K w.params) mg base (CX w) k fa fd [x] (sp w))
    (hsp : ∀ (w : World) (H : Hp) (a : Addr) (ns : List Int), ns.length ≤ n → Only H →
      SqL (K w.params) H a (ns.map V.int) → sp w [.ref a] H (fun v _ => v = .bl true) fun _ _ _ => False)
    (hCX : ∀ (w : World) (H : Hp) (s : Shared) (e : Value) (s' : Shared),
      CX w [] H s (fun _ _ _ => False) e s' → False) :
    PySem.W.WalkO q loose XP YP l.row.toRowW d [] (fun f vs => PySem.call f vs) := by
  refine Att.attach_call hn hdf ?_
  intro w s₀ s₁ mg mb fa o pm cd doc a vs ns G Y ho hd hcd hmg hobj hints hlen hg
  obtain ⟨fd, hb, hF⟩ := F w mg fa _ (hY w _ Y) G.T.g hmg
  exact law_callG (hY w _ Y) G.T.g G.T.b G.T.builtins G.T.nolimit hg hobj hints (Nat.le_trans hlen hn2) hr hF hb
    (fun H hO hS => hsp w H a ns hlen hO hS) (fun H e s' => hCX w H s₁ e s')
end Tc
/-! An own exception class is called, with keywords too. -/
namespace Tc
open PySem PySem.Spec PySem.W
open Builtin Builtin.ObjectAttr
section
variable {M : Model} {A : Around} {E : Value → Shared → Prop} {h : Heap} {g : Array GenState} {d : Drawn} {t : Nat} {os : OsState}
variable {nm q : Str} {C N : Addr} {bs bm bmB : List Value} {hdct : Bool} {sn : List Str} {sub : List Value} {ab : Bool}
  {col : Option Bool} {dd : Option Addr} {k0 k1 k2 k3 k5 : Option Value} {B newId initId : String}

theorem check_newA (F : ExcBaseFacts B newId initId bmB) (hT : ∀ X : String, bm.contains (.type X) = bmB.contains (.type X))
    {rest : List Value} {kw : List (Str × Value)} {Q : Unit → Shared → Prop}
    (hC : h.get? C = some (excClassObj nm q C N bs bm hdct sn sub ab col dd k0 k1 k2 k3 k5 newId))
    (hq : Q () ⟨h, g, d, t, os⟩) : wpAny M A (checkBuiltinCall newId ⟨.ref C :: rest, kw⟩) Q E ⟨h, g, d, t, os⟩ := by
  have mine : (Value.ref C :: bm).contains (.type B) = true := by rw [List.contains_cons, hT, F.hasB, Bool.or_true]
  have star := F.noStar
  simp only [checkBuiltinCall, F.newKind, F.newSplit, F.newRow]
  repeat (first
    | refine wpAny_loadPart_at hC ?_
    | (refine wpAny_isSubtype_exc hC ?_; rw [mine])
    | refine wpAny_staticBase_exc hC ?_
    | refine wpAny_madeBy_exc hC ?_
    | simp only [bne_self_eq_false, Bool.false_eq_true, if_false]
    | wp_step)
  exact hq
end
section
variable {prog : Program} {w : World} {A : Around} {E : Value → Shared → Prop} {R : Result → Shared → Prop} {h : Heap}
  {g : Array GenState} {d : Drawn} {t : Nat} {os : OsState}
variable {nm q : Str} {C N : Addr} {bs bm bmB : List Value} {hdct : Bool} {sn : List Str} {sub : List Value} {ab : Bool}
  {col : Option Bool} {dd : Option Addr} {k0 k1 k2 k3 k5 : Option Value} {B newId initId : String}
theorem newA (F : ExcBaseFacts B newId initId bmB) (hT : ∀ X : String, bm.contains (.type X) = bmB.contains (.type X))
    {rest : List Value} {kw : List (Str × Value)}
    (hC : h.get? C = some (excClassObj nm q C N bs bm hdct sn sub ab col dd k0 k1 k2 k3 k5 newId))
    (hq : R (.ok (.ret (.ref (h.objs.size + 1))))
      ⟨(h.push (kdv_tup rest)).push (HandSPX.excO C h.objs.size), g, d, t, os⟩) (hrest : rest.length ≤ sizeLine) :
    codeAny (model prog w) A (.builtin newId ⟨.ref C :: rest, kw⟩) R ⟨h, g, d, t, os⟩ := by
  have hends := F.ends
  have mine : (Value.ref C :: bm).contains (.type B) = true := by rw [List.contains_cons, hT, F.hasB, Bool.or_true]
  have noA : (Value.ref C :: bm).contains (.type "AttributeError") = false := by rw [List.contains_cons, hT, F.noAttr]; rfl
  have noN : (Value.ref C :: bm).contains (.type "NameError") = false := by rw [List.contains_cons, hT, F.noName]; rfl
  refine codeAny_builtinAt F.entry ?_
  unfold Builtin.«BaseException.__new__»
  refine wpAt_bind ?_
  show wpAt _ _ _ (stack >>= _) _ _ _
  refine wpAt_bind (wpAt_stack ?_)
  intro p below
  refine wpAt_of_wpAny ?_
  wp_walk
  refine wpAt_of_wpAny ?_
  rw [F.owner]
  repeat (first
    | with_reducible refine wpAny_madeHere_exc F.canon hC ?_
    | with_reducible refine wpAny_loadPart_at hC ?_
    | (with_reducible refine wpAny_isSubtype_exc hC ?_; first | rw [mine] | rw [noA] | rw [noN])
    | wp_step)
  show R _ _
  rw [Heap.size_push]
  exact hq
/-- type.__call__ on such a class, its __init__ a def -/
theorem typeCallA (F : ExcBaseFacts B newId initId bmB) (hT : ∀ X : String, bm.contains (.type X) = bmB.contains (.type X))
    {rest : List Value} {kw : List (Str × Value)} {fI : Addr} {Q : PySem.Fin → Shared → Prop}
    (hC : h.get? C = some (excClassObj nm q C N bs bm hdct sn sub ab col dd k0 k1 k2 k3 k5 newId))
    (hi : W.Looks (model prog w) h (typeLookup (.ref C) "__init__") (some (.ref fI)))
    (hb : ∀ self, W.Looks (model prog w) h (bindSpecial (.ref fI) self) (.ref fI, [self])) (hrest : rest.length ≤ sizeLine)
    (hq : codeAny (model prog w) A (.call (.ref fI) ⟨.ref (h.objs.size + 1) :: rest, kw⟩)
      (fun r s' => match r with
        | .ok (.ret v) => v = .none ∧ Q (.done (.ret (.ref (h.objs.size + 1)))) s'
        | .ok _ => False
        | .error e => E e s')
      ⟨(h.push (W.kdv_tup rest)).push (HandSPX.excO C h.objs.size), g, d, t, os⟩) :
    wpAny (model prog w) A (Builtin.«type.__call__» ⟨.ref C :: rest, kw⟩) Q E ⟨h, g, d, t, os⟩ := by
  repeat (first
    | with_reducible refine wpAny_loadPart_at hC ?_
    | with_reducible refine wpAny_madeBy_exc hC ?_
    | wp_step)
  refine codeAny_call_builtin_code (Code.quiet_builtin _ F.quiet) (check_newA F hT hC ?_)
  refine newA F hT hC ?_ hrest
  show wpAny _ _ _ _ _ _
  have k : ∀ b o, h.get? b = some o →
      ((h.push (W.kdv_tup rest)).push (HandSPX.excO C h.objs.size)).get? b = some o := fun b o e =>
    Heap.get?_push_of_some _ (Heap.get?_push_of_some _ e)
  have inst : ((h.push (W.kdv_tup rest)).push (HandSPX.excO C h.objs.size)).get? (h.objs.size + 1) =
      some (HandSPX.excO C h.objs.size) := by heap_get
  have later := k _ _ hC
  have own : (Value.ref C :: bm).contains (.ref C) = true := by simp
  have i1 := hi.keeps k
  have b1 := (hb (.ref (h.objs.size + 1))).keeps k
  unfold isInstance
  repeat (first
    | with_reducible refine wpAny_loadPart_at inst ?_
    | (with_reducible refine wpAny_isSubtype_exc later ?_; rw [own])
    | wp_step)
  show wpAny _ _ (typeLookup (.ref C) _) _ _ _
  refine i1.at (wpAny_holding (wpAny_bind (b1.at ?_)))
  refine wpAny_bind (wpAny_call (codeAny_mono hq ?_))
  intro r s' z
  rcases r with e | (v | _ | _ | _) <;> first | exact z | exact z.elim | skip
  obtain ⟨rfl, z⟩ := z
  first
    | exact wpAny_pure (wpAny_pure z)
    | (wp_walk; exact z)

theorem callA (F : ExcBaseFacts B newId initId bmB) (hT : ∀ X : String, bm.contains (.type X) = bmB.contains (.type X))
    {rest : List Value} {kw : List (Str × Value)} {fI : Addr}
    (hC : h.get? C = some (excClassObj nm q C N bs bm hdct sn sub ab col dd k0 k1 k2 k3 k5 newId))
    (hi : W.Looks (model prog w) h (typeLookup (.ref C) "__init__") (some (.ref fI)))
    (hb : ∀ self, W.Looks (model prog w) h (bindSpecial (.ref fI) self) (.ref fI, [self])) (hrest : rest.length ≤ sizeLine)
    (hq : codeAny (model prog w) (A.under (.builtin "type.__call__" ⟨.ref C :: rest, kw⟩))
      (.call (.ref fI) ⟨.ref (h.objs.size + 1) :: rest, kw⟩) (W.InitBack (h.objs.size + 1) R)
      ⟨(h.push (W.kdv_tup rest)).push (HandSPX.excO C h.objs.size), g, d, t, os⟩) :
    codeAny (model prog w) A (.call (.ref C) ⟨rest, kw⟩) R ⟨h, g, d, t, os⟩ := by
  have f1 := PySem.tc_lookup
  have f2 := PySem.tc_bind (.ref C)
  have hTy : (⟨h, g, d, t, os⟩ : Shared).TypeIs (.ref C) "type" := ⟨_, hC, rfl⟩
  refine codeAny_of_tree ?_
  show wpAny _ _ (callAny (.ref C) _) _ _ _
  repeat (any_goals (first
    | assumption
    | with_reducible refine wpAny_loadPart_at hC ?_
    | wp_step))
  refine ⟨rfl, ?_⟩
  refine codeAny_call_builtin_at (Code.quiet_builtin _ (by decide +kernel)) entry_typeCall ?_
  refine wpAny_check_type_call_sub hC (typeCallA F hT hC hi hb hrest ?_)
  refine codeAny_mono hq ?_
  intro r s' z
  rcases r with e | (v | _ | _ | _) <;> exact z
end
end Tc
/-! An own exception class with one field is called: what stands then. -/
namespace Tc
open PySem PySem.Spec PySem.W
open Builtin Builtin.ObjectAttr

/-- what is written of an exception class with an __init__ at fI, over the base B; fld: its field -/
structure ExK (K : Frag) (C fI : Addr) (B newId initId : String) (bmB : List Value) (fld : Str) : Prop where
  base : ExcBaseFacts B newId initId bmB
  store : StoreFacts B bmB "object.__setattr__" "object"
  ini : excInitIn K C bmB newId = true
  over : excOver K C bmB = true
  own : hasDictIn K C = true
  sa : findIn K (.ref C) "__setattr__" = some (some (.builtin "object.__setattr__"))
  tak : takerIn K C fld = some none
  noF : findIn K (.ref C) fld = some none
  iC : findIn K (.ref C) "__init__" = some (some (.ref fI))
  tI : typeIn K (.ref fI) = some (.type "function")
  kp : keepIn K (.ref C) = true
/-- def __init__(self, FLD): self.FLD = FLD -/
structure InitDef (K : Frag) (fI : Addr) (qual fld : Str) (fd : FuncData) : Prop where
  ex : ∃ (oc : Value) (od : Option Addr) (kV doc pm : Value) (an : Option Addr) (cdv ct : Value) (osl : Array (Option Value))
    (pa : Arguments) (sc : Scope) (q1 q2 q3 q4 : Pos),
    fd = fnOf "__init__" qual pa [.Assign [.Attribute (.Name "self" q1) fld q2] (.Name fld q3) q4] sc .none kV doc pm an cdv ct ∧
    sc = { kind := .function, names := [("self", .local), (fld, .local)], isGenerator := false, isCoroutine := false, more := [] } ∧
    K.lookup fI = some ⟨oc, od, .func fd, osl⟩ ∧ codeIn K cdv qual = true

section
variable {prog : Program} {w : World} {A : Around} {E : Value → Shared → Prop} {R : Result → Shared → Prop}
  {hp : Heap} {g : Array GenState} {d : Drawn} {t : Nat} {os : OsState} {K : Frag} {C fI : Addr} {B newId initId : String}
  {bmB : List Value} {fld qual : Str} {fd : FuncData} {x t0 : Addr} {v : Value}
theorem osa_first {tk : Tok} (Z : ExK K C fI B newId initId bmB fld) (X : K.In hp)
    (hx : hp.get? x = some (HandSPX.excO C t0))
    (hq : ∀ h' tk' dx, (∀ b o, b ≠ x → hp.get? b = some o → h'.get? b = some o) → hp.objs.size ≤ dx → dx ≠ x →
      h'.get? x = some { HandSPX.excO C t0 with dict := some dx } →
      h'.Ns1 dx (fun y => if y = fld then some v else none) → R (.ok (.ret .none)) ⟨h', g, d, tk', os⟩) :
    codeAny (model prog w) A (.call (.builtin "object.__setattr__") ⟨[.ref x, .str fld tk, v], []⟩) R ⟨hp, g, d, t, os⟩ := by
  refine osa_openX (od := none) Z.store X ⟨hx, rfl, rfl, trivial⟩ Z.over Z.tak ?_
  intro b
  have hxs : x ≠ hp.objs.size := Nat.ne_of_lt (Heap.lt_size hx)
  obtain ⟨cd, hcd, hh⟩ := any_some Z.own
  have hcls : Looks (model prog w) hp (classData C) cd := looks_clsIn X hcd
  show wpAny _ _ (storeInOwnDict (.ref x) (.ref C) (.str fld tk) fld v b) _ _ _
  obtain ⟨nm, bs, mro, ns, qn, hd, sn, sb, ab, col, del⟩ := cd
  dsimp only at hh
  subst hh
  unfold storeInOwnDict ownDictForStores
  repeat (first
    | with_reducible refine HandSPX.store_in_new ?_ ?_
    | with_reducible refine wpAny_loadPart_at hx ?_
    | with_reducible refine hcls.at ?_
    | wp_step)
  · exact ⟨_, #[], _, (Heap.get?_update_ne _ _ _ _ hxs.symm).trans (Heap.get?_push_at rfl rfl), rfl,
      fun e he => absurd he (by simp), fun _ => rfl⟩
  · intro h' tk' hn' hs
    have hx1 : (hp.push { cls := .type "dict", data := .dict #[] }).get? x = some (HandSPX.excO C t0) :=
      Heap.get?_push_of_some _ hx
    refine hq h' tk' hp.objs.size ?_ (Nat.le_refl _) hxs.symm ?_ hn'
    · intro b o hb ho
      refine (hs.2 b (Nat.ne_of_lt (Heap.lt_size ho))).trans ?_
      exact (Heap.get?_update_ne _ _ _ _ hb).trans (Heap.get?_push_of_some _ ho)
    · exact (hs.2 x hxs).trans (Heap.get?_update_self _ hx1 rfl)
end
end Tc
namespace Tc
open PySem PySem.Spec PySem.W PyProof.Rows
open Builtin Builtin.ObjectAttr
theorem ld_local {M : Model} {s : Shared} {name : Str} {scope : Scope} {L a : Addr} {cd : Value} {m : Str → Option Value}
    {x : Str} {pos : Pos} {v : Value} {Q : Value → Shared → Prop} {A : Around} {E : Value → Shared → Prop}
    (hn : s.heap.Ns L m) (hv : m x = some v) (h : Q v s) (hk : scope.kind = .function := by rfl)
    (hl : (envOfC name scope L a cd).kindOf x = some .local := by rfl) (hd : (x == ("__debug__" : Str)) = false := by decide) :
    wpAny M A (eval (.Name x pos) (envOfC name scope L a cd)) Q E s :=
  wpAny_Name (wpAny_loadName_local hk hl hn hv h) hd
/-- the two names that such a field has -/
def FieldName (fld : Str) : Prop := fld = "given" ∨ fld = "index"
section
variable {prog : Program} {w : World} {A : Around} {E : Value → Shared → Prop} {R : Result → Shared → Prop}
  {s : Shared} {K : Frag} {C fI : Addr} {B newId initId : String}
  {bmB : List Value} {fld qual : Str} {fd : FuncData} {x t0 : Addr} {v : Value}
/-- behind __init__ -/
structure InitDone (h h' : Heap) (x C dx t1 : Addr) (fld : Str) (v : Value) : Prop where
  keep : ∀ b o, b ≠ x → h.get? b = some o → h'.get? b = some o
  obj : h'.get? x = some { HandSPX.excO C t1 with dict := some dx }
  big : h.objs.size ≤ dx
  dne : dx ≠ x
  ns : h'.Ns1 dx (fun y => if y = fld then some v else none)
theorem init_run (Z : ExK K C fI B newId initId bmB fld) (fn : FieldName fld) (D : InitDef K fI qual fld fd) (X : K.In s.heap)
    (hlim : s.heap.NoLimit) (hx : s.heap.get? x = some (HandSPX.excO C t0)) (hroom : A.depth < recursionLimit)
    {args : Args} (hb : BindsTo s fd args [("self", .ref x), (fld, v)])
    (hq : ∀ h' tk dx, InitDone s.heap h' x C dx t0 fld v → R (.ok (.ret .none)) { s with heap := h', toks := tk }) :
    codeAny (model prog w) A (.call (.ref fI) args) R s := by
  obtain ⟨oc, od, kV, doc, pm, an, cdv, ct, osl, pa, sc, q1, q2, q3, q4, rfl, rfl, ho, hcd⟩ := D.ex
  have two : (fld == ("self" : Str)) = false := by rcases fn with rfl | rfl <;> decide
  refine Att.call_fn (binds := [("self", .ref x), (fld, v)]) X hlim ho hcd hroom hb
    (by rcases fn with rfl | rfl <;> first | rfl | decide | with_unfolding_all rfl) (fun s1 IC => ?_) rfl rfl rfl
  obtain ⟨h1, tk1, rfl⟩ := IC.toInCall.same
  have k : ∀ b o, s.heap.get? b = some o → h1.get? b = some o := IC.toInCall.keep
  have hn := IC.toInCall.ns
  have X1 : K.In h1 := X.keeps k
  have hx1 := k _ _ hx
  show wpAny _ _ (execs _ _) _ _ _
  refine wpAny_execs_cons (plainObj_wpAny_Assign_Attribute ?_)
  refine ld_local (v := v) hn ?_ (ld_local (v := .ref x) hn ?_ ?_ rfl ?_) rfl ?_ ?_
  · rcases fn with rfl | rfl <;> first | rfl | with_unfolding_all rfl | kernel_rfl
  · rcases fn with rfl | rfl <;> first | rfl | with_unfolding_all rfl | kernel_rfl
  · refine set_plain X1 (ox := HandSPX.excO C t0) (od := none) ⟨hx1, rfl, rfl, trivial⟩ Z.sa ?_
    refine osa_first Z X1 hx1 (fun h3 tk3 dx k3 dn dne hx3 hn3 => ?_)
    show wpAny _ _ (execs _ _) _ _ _
    have z : s.heap.objs.size < h1.objs.size := hn.lt
    exact wpAny_execs_nil (hq h3 tk3 dx ⟨fun b o hb e => k3 b o hb (k b o e), hx3,
      Nat.le_of_lt (Nat.lt_of_lt_of_le z dn), dne, hn3⟩)
  · rcases fn with rfl | rfl <;> rfl
  · rcases fn with rfl | rfl <;> rfl
  · rcases fn with rfl | rfl <;> decide

/-- a new exception, its field -/
structure MadeX (h h' : Heap) (e C d : Addr) (fld : Str) (v : Value) : Prop where
  keep : ∀ b o, h.get? b = some o → h'.get? b = some o
  new : h.objs.size ≤ e
  obj : ∃ t1 : Addr, h'.get? e = some { HandSPX.excO C t1 with dict := some d }
  big : h.objs.size ≤ d
  dne : d ≠ e
  ns : h'.Ns1 d (fun y => if y = fld then some v else none)
theorem made_run (Z : ExK K C fI B newId initId bmB fld) (fn : FieldName fld) (D : InitDef K fI qual fld fd) (X : K.In s.heap)
    (hlim : s.heap.NoLimit) (hroom : A.depth + 1 < recursionLimit) {rest : List Value} {kw : List (Str × Value)} (hz : rest.length ≤ sizeLine)
    (hb : ∀ (s : Shared) (y : Addr), BindsTo s fd ⟨.ref y :: rest, kw⟩ [("self", .ref y), (fld, v)])
    (hq : ∀ h' tk e d, MadeX s.heap h' e C d fld v → R (.ok (.ret (.ref e))) { s with heap := h', toks := tk }) :
    codeAny (model prog w) A (.call (.ref C) ⟨rest, kw⟩) R s := by
  obtain ⟨nm, N', qn, bs, bm, hdct, sn, sub, ab, col, dd, k0, k1, k2, k3, k5, hC, hT⟩ := excInit_of X Z.ini
  obtain ⟨hp, g, dr, tk, os⟩ := s
  have k : ∀ b o, hp.get? b = some o → ((hp.push (kdv_tup rest)).push (HandSPX.excO C hp.objs.size)).get? b = some o :=
    fun b o e => Heap.get?_push_of_some _ (Heap.get?_push_of_some _ e)
  have hget : ((hp.push (kdv_tup rest)).push (HandSPX.excO C hp.objs.size)).get? (hp.objs.size + 1) =
      some (HandSPX.excO C hp.objs.size) := by heap_get
  refine callA Z.base hT hC (looks_findIn X Z.iC) (fun self => bind_fn X self Z.tI) hz ?_
  refine init_run (s := ⟨(hp.push (kdv_tup rest)).push (HandSPX.excO C hp.objs.size), g, dr, tk, os⟩) Z fn D
    (X.keeps k) (hlim.keeps k) hget ?_ (hb _ _) ?_
  · have e : (A.under (.builtin "type.__call__" ⟨.ref C :: rest, kw⟩)).depth = A.depth + 1 := L2.make_depth
    omega
  · rintro h' tk' dx ⟨k', hx, dn, dne, hns⟩
    have z : hp.objs.size + 1 + 1 ≤ dx := by
      have q := dn
      rw [Heap.size_push, Heap.size_push] at q
      exact q
    refine ⟨rfl, hq h' tk' (hp.objs.size + 1) dx ⟨fun b o e => ?_, Nat.le_succ _, ⟨_, hx⟩,
      Nat.le_trans (Nat.le_trans (Nat.le_succ _) (Nat.le_succ _)) z, dne, hns⟩⟩
    exact k' b o (Nat.ne_of_lt (Nat.lt_succ_of_lt (Heap.lt_size e))) (k b o e)
end
end Tc
/-! Exceptions as values, tracked: made, asked for their class, their field read. -/
namespace Tc
open PySem PySem.Spec PyProof.Rows L2

/-- at a an exception of the class at C with its dict at d, which holds the field alone -/
structure ExAt (H : Hp) (a C d : Addr) (fld : Str) (v : V) : Prop where
  ob : H a = some (exo a C (some d))
  di : H d = some (exd d [(fld, v)])

section
variable {X : Cx} {pins : List (Addr × Obj)} {σ : L2.St} {H : Hp} {C fI e d : Addr} {B newId initId : String}
  {bmB : List Value} {fld qual : Str} {fd : FuncData} {v : V} {u : Value}

theorem relO_one (rv : RelV v u) (f : Str) : RelO (List.lookup f [(fld, v)]) (if f = fld then some u else none) :=
  relO_put (fs := []) (mA := fun _ => none) rv (fun _ => True.intro) f

theorem made_inv {hp h' : Heap} {g : Array GenState} {dr : Drawn} {tk tk' : Nat} {os : OsState}
    (I : Inv X pins σ H ⟨hp, g, dr, tk, os⟩) (M : MadeX hp h' e C d fld u) (rv : RelV v u) :
    H e = none ∧ H d = none ∧ d ≠ e ∧
      Inv X pins σ (upd (upd H d (exd d [(fld, v)])) e (exo e C (some d))) ⟨h', g, dr, tk', os⟩ := by
  have he : H e = none := I.hok.fresh M.new
  have hd : H d = none := I.hok.fresh M.big
  refine ⟨he, hd, M.dne, ?_⟩
  obtain ⟨t1, hobj⟩ := M.obj
  obtain ⟨G, g1, g2⟩ := restrict h' fun b => decide (b ≠ e)
  have gk : ∀ b, b ≠ e → G.get? b = h'.get? b := fun b hb => g1 b (decide_eq_true hb)
  have ge : G.get? e = none := g2 e (by simp)
  have old : ∀ b o, hp.get? b = some o → G.get? b = some o := by
    intro b o q
    have hb : b ≠ e := Nat.ne_of_lt (Nat.lt_of_lt_of_le (Heap.lt_size q) M.new)
    rw [gk b hb]
    exact M.keep b o q
  have one : ObjOk X.prog X.w (upd H d (exd d [(fld, v)])) G d (exd d [(fld, v)]) :=
    exd_ok (M.ns.at fun o q => (gk d M.dne).trans q) (relO_one rv)
  have J := I.laid (t' := tk') old M.big one
  have up : ∀ b o, G.get? b = some o → h'.get? b = some o := by
    intro b o q
    by_cases hb : b = e
    · rw [hb, ge] at q
      cases q
    · exact (gk b hb).symm.trans q
  have he2 : upd H d (exd d [(fld, v)]) e = none := by
    rw [upd_ne M.dne.symm]
    exact he
  have un : Un X.fs [] (upd H d (exd d [(fld, v)])) (upd (upd H d (exd d [(fld, v)])) e (exo e C (some d))) G h' := {
    keep := fun b o q _ _ _ => up b o q
    slot := fun b o q _ _ _ => ⟨o.slots, up b o q⟩
    free := fun b o q n _ => by
      rw [upd_ne (fun z => by rw [z, ge] at q; cases q)]
      exact n
    there := fun b o q _ => ⟨o, up b o q⟩
    tups := fun b xs q => by
      rw [upd_ne (ne_of_none q he2)]
      exact q
    frzs := fun b o w q => by
      rw [upd_ne (ne_of_none q he2)]
      exact q
    tbls := fun b ps q => ⟨#[], by rw [upd_ne (ne_of_none q he2), q]; simp⟩ }
  refine J.un (t' := tk') un ?_
  intro b o q
  by_cases hb : b = e
  · subst hb
    rw [upd_same] at q
    cases q
    exact exo_ok hobj
  · rw [upd_ne hb] at q
    refine (J.hok b o q).stay (fun c w _ z => up c w z) (fun c z => ?_) (fun c xs z => ?_)
    · rw [upd_ne (ne_of_none z he2)]
      exact z
    · rw [upd_ne (ne_of_none z he2)]
      exact z

/-- X(e) | X(FLD=e): a new exception, its dict -/
def tNewX (C : Addr) (fld : Str) (te : TE) : TE := fun σ H Q => te σ H fun v H1 => ∀ a d, H1 a = none → H1 d = none → d ≠ a →
  Q (.ref a) (upd (upd H1 d (exd d [(fld, v)])) a (exo a C (some d)))
theorem run_newX {s : Shared} {Q : VK} {rest : List Value} {kw : List (Str × Value)} {k : Nat}
    (Z : ExK X.K C fI B newId initId bmB fld) (fn : FieldName fld) (D : InitDef X.K fI qual fld fd)
    (hr : Room k X.A) (hz : rest.length ≤ sizeLine)
    (hb : ∀ (s : Shared) (y : Addr), BindsTo s fd ⟨.ref y :: rest, kw⟩ [("self", .ref y), (fld, u)])
    (I : Inv X pins σ H s) (rv : RelV v u)
    (h : ∀ a d, H a = none → H d = none → d ≠ a → Q (.ref a) (upd (upd H d (exd d [(fld, v)])) a (exo a C (some d)))) :
    wpAny (model X.prog X.w) X.A (call (.ref C) rest kw) (EP X pins σ Q) X.xe s := by
  obtain ⟨hp, g, dr, tk, os⟩ := s
  refine wpAny_call (made_run Z fn D I.kIn I.nolimit (by have := hr.dp; omega) hz hb ?_)
  intro h' tk' e d M
  obtain ⟨he, hd, ne, J⟩ := made_inv (tk' := tk') I M rv
  exact ⟨.ref e, _, J, rfl, h e d he hd ne⟩
variable {x : Str} {p pos : Pos} {ee : Expr} {te : TE} {k : Nat}
theorem pe_newX (Z : ExK X.K C fI B newId initId bmB fld) (fn : FieldName fld) (D : InitDef X.K fI qual fld fd)
    (hr : Room k X.A) (hb : ∀ (u : Value) (s : Shared) (y : Addr), BindsTo s fd ⟨[.ref y, u], []⟩ [("self", .ref y), (fld, u)])
    (hg : Gl X x) (hm : X.mg x = some (.ref C)) (he : PE X ee te)
    (hs : starEach [ee] X.env = (false, eval ee X.env) :: starEach [] X.env := by rfl)
    (hdb : (x == ("__debug__" : Str)) = false := by decide) :
    PE X (.Call (.Name x p) [ee] [] pos) (tNewX C fld te) := by
  constructor
  intro pins s σ H Q I h
  refine wpAny_Call_Name_kw (ld_glob I hg hm ?_ hdb)
  refine PySem.W.callWith_K (h₀ := X.base) I.ok.mod.kin Z.kp ?_ hs (by rfl)
  rw [hs]
  show wpAny _ _ (spliced ((false, eval ee X.env) :: backTo pos (starEach [] X.env))) _ _ s
  refine Calls.spliced_cons (thn (he.run pins s σ H _ I h) ?_)
  rintro u s1 ⟨v, H1, I1, r1, q1⟩
  refine Calls.spliced_nil ⟨I1.kIn, ?_⟩
  exact run_newX (kw := []) Z fn D hr (by rw [sizeLine_eq]; show 1 ≤ 16777216; decide) (fun s y => hb u s y) I1 r1 q1
theorem pe_newXk {kpos : Pos} (Z : ExK X.K C fI B newId initId bmB fld) (fn : FieldName fld) (D : InitDef X.K fI qual fld fd)
    (hr : Room k X.A) (hb : ∀ (u : Value) (s : Shared) (y : Addr), BindsTo s fd ⟨[.ref y], [(fld, u)]⟩ [("self", .ref y), (fld, u)])
    (hg : Gl X x) (hm : X.mg x = some (.ref C)) (he : PE X ee te)
    (hall : (backToKw pos (keywordEach [⟨some fld, ee, kpos⟩] X.env)).all (·.1.isSome) = true := by rfl)
    (hks : (backToKw pos (keywordEach [⟨some fld, ee, kpos⟩] X.env)).filterMap (·.1) = [fld] := by rfl)
    (hpl : ((backTo pos (starEach [] X.env)).any (·.1) || (backToKw pos (keywordEach [⟨some fld, ee, kpos⟩] X.env)).any (·.1.isNone)) = false := by rfl)
    (hdb : (x == ("__debug__" : Str)) = false := by decide) :
    PE X (.Call (.Name x p) [] [⟨some fld, ee, kpos⟩] pos) (tNewX C fld te) := by
  constructor
  intro pins s σ H Q I h
  refine wpAny_Call_Name_kw (ld_glob I hg hm ?_ hdb)
  have kws : PK X [⟨some fld, ee, kpos⟩] (tCons te tNil) := pk_cons he pk_nil
  refine PySem.W.callWith_KW0 (h₀ := X.base) I.ok.mod.kin Z.kp hall
    (thn (kws.run pos pins s σ H (fun zs H1 => match zs with
      | [v] => ∀ a d, H1 a = none → H1 d = none → d ≠ a → Q (.ref a) (upd (upd H1 d (exd d [(fld, v)])) a (exo a C (some d)))
      | _ => False) I ?_) ?_) hpl
  · show te σ H _
    exact h
  · rintro ws s1 ⟨zs, H1, I1, rz, q1⟩
    match zs, q1 with
    | [v], q1 =>
    obtain ⟨u, rfl, ru⟩ := vals1 rz
    refine ⟨I1.kIn, ?_⟩
    rw [hks]
    exact run_newX (rest := []) Z fn D hr (by rw [sizeLine_eq]; decide) (fun s y => hb u s y) I1 ru q1
/-- what isinstance and a field's read ask of an exception's class -/
structure ExA (K : PySem.W.Frag) (C : Addr) : Prop where
  ga : PySem.W.findIn K (.ref C) "__getattribute__" = some (some (.builtin "BaseException.__getattribute__"))
  gg : PySem.W.findIn K (.ref C) "__getattr__" = some none
  ex : PySem.W.subIn K (.ref C) (.type "BaseException") = some true
  own : PySem.W.hasDictIn K C = true
  kc : PySem.W.findIn K (.ref C) "__class__" = some (some (.builtin "object.__class__"))
  sn : PySem.W.specialIn K (.builtin "object.__class__") "__get__" = some (some (.builtin "getset_descriptor.__get__"))
  tk : PySem.W.takesIn K (.builtin "object.__class__") = some true
  mo : PySem.W.mroIn K C (.type "object") = some true
theorem inst_ex {s : Shared} {C a : Addr} {od : Option Addr} (I : Inv X pins σ H s) (h : H a = some (exo a C od))
    (hd : ∀ d, od = some d → ∃ fs, H d = some (exd d fs)) : ∃ oe oo, PySem.W.InstAt s.heap a oe C oo ∧
      (∀ d, od = some d → ∃ o, oo = some o ∧ s.heap.get? d = some o) := by
  obtain ⟨t1, ho⟩ := exo_at I.hok h
  cases od with
  | none => exact ⟨_, none, ⟨ho, rfl, rfl, trivial⟩, fun d e => nomatch e⟩
  | some d =>
    obtain ⟨fs, hf⟩ := hd d rfl
    obtain ⟨mA, hns, _⟩ := exd_at I.hok hf
    obtain ⟨o, ho2, _⟩ := lookIn_ns hns
    exact ⟨_, some o, ⟨ho, rfl, rfl, ho2⟩, fun d' e => by cases e; exact ⟨o, rfl, ho2⟩⟩
/-- isinstance(e, c), e a tracked exception -/
def rIsX (K : PySem.W.Frag) : List V → Hp → VK → Prop := fun xs H Q => ∃ (a C : Addr) (od : Option Addr) (c : V) (cv : Value) (b : Bool),
  xs = [.ref a, c] ∧ H a = some (exo a C od) ∧ (∀ d, od = some d → ∃ fs, H d = some (exd d fs)) ∧ ExA K C ∧ ClsV c cv ∧
  PySem.W.kitOne K (.ref C) cv = some b ∧ Q (.bl b) H
theorem call_isX : CallR X (.builtin "isinstance") (rIsX X.K) := by
  intro pins s σ H xs us Q I r h
  obtain ⟨a, C, od, c, cv, b, rfl, ha, hd, T, hc, e, q⟩ := h
  cases r with
  | cons rx rr =>
    cases rr with
    | cons rt rr =>
      cases rr
      cases rx
      have ec := hc.eq rt
      subst ec
      obtain ⟨oe, oo, J, _⟩ := inst_ex I ha hd
      have cl : (PySem.W.clsIn X.K C).isSome = true := by
        obtain ⟨cd, hcd, _⟩ := PySem.W.any_some T.own
        rw [hcd]
        rfl
      refine PySem.W.kia_one (PySem.W.kitx_exc cl T.ga T.gg T.ex T.kc T.sn T.tk T.mo) I.kIn J e (fun z => nomatch z) ?_
      intro tk
      exact ⟨.bl b, H, I.kept (t' := tk) fun _ _ z => z, rfl, q⟩
/-- e.FLD, e a tracked exception -/
def tXfld (K : PySem.W.Frag) (fld : Str) (te : TE) : TE := fun σ H Q => te σ H fun x H1 => ∃ (a C d : Addr) (fs : List (Str × V)) (v : V),
  x = .ref a ∧ H1 a = some (exo a C (some d)) ∧ H1 d = some (exd d fs) ∧ ExA K C ∧ PySem.W.findIn K (.ref C) fld = some none ∧
  fs.lookup fld = some v ∧ Q v H1
theorem pe_xfld {n : Str} (he : PE X ee te) (hb : attributeBase ee n X.env (eval ee X.env) = eval ee X.env := by rfl) :
    PE X (.Attribute ee n pos) (tXfld X.K n te) := by
  constructor
  intro pins s σ H Q I h
  refine attr_of hb (thn (he.run pins s σ H _ I h) ?_)
  rintro u s1 ⟨x, H1, I1, rx, a, C, d, fs, v, rfl, ha, hd, T, hno, hl, q⟩
  obtain rfl : u = Value.ref a := rx
  obtain ⟨oe, oo, J, hoo⟩ := inst_ex I1 ha (fun d' e => by cases e; exact ⟨fs, hd⟩)
  obtain ⟨o, rfl, ho⟩ := hoo d rfl
  obtain ⟨mA, hns, hr⟩ := exd_at I1.hok hd
  obtain ⟨o2, ho2, hlk⟩ := lookIn_ns hns
  rw [ho] at ho2
  cases ho2
  obtain ⟨w, hw, rw'⟩ := RelO.some_of (v := v) (o := mA n) (by rw [← hl]; exact hr n)
  refine HandSPX.exc_get I1.kIn J T.ga T.gg T.ex (PySem.W.findObj_own T.own hno rfl (by rw [hlk, hw])) (handed_of rw') ?_
  exact ⟨v, H1, I1.tok _, rw', q⟩
end
end Tc
namespace Tc
open PySem PySem.Spec PyProof.Rows L2
section
variable {X : Cx} {C : Addr} {B newId initId : String} {bmB : List Value} {x : Str} {p pos : Pos}
/-- X(), an own exception class without an own __init__ -/
def tNewX0 (C : Addr) : TE := fun _ H Q => ∀ a, H a = none → Q (.ref a) (upd H a (exo a C none))
theorem pe_newX0 (F : ExcBaseFacts B newId initId bmB) (q : PySem.W.excIn X.K C bmB newId = true)
    (gC : X.mg x = some (.ref C)) (kC : PySem.W.keepIn X.K (.ref C) = true) (hg : Gl X x)
    (hdb : (x == ("__debug__" : Str)) = false := by decide) :
    PE X (.Call (.Name x p) [] [] pos) (tNewX0 C) := by
  constructor
  intro pins s σ H Q I h
  refine wpAny_Call_Name_kw (ld_glob I hg gC ?_ hdb)
  refine PySem.W.callWith_K0 I.kIn kC ?_
  obtain ⟨bm, N, nm, qn, bs, hdct, sn, sub, ab, col, dd, k0, k1, k2, k3, k5, mN, hC, hN, hni, T⟩ := exc_obj I.kIn q
  refine wpAny_call_exc_subT F T hC hN hni ?_ (by show 0 ≤ sizeLine; omega)
  intro h' a hm
  have hn : H a = none := I.hok.gone hm.new
  obtain ⟨t, ht, _, _⟩ := hm.there
  exact ⟨.ref a, _, I.laidN hm.keeps hm.new hn (exo_ok ht), rfl, h a hn⟩
end
end Tc
/-! The head's facts by one Bool and the functions by their texts; what makes a new exception. -/
namespace Tc
open PySem PySem.Spec PyProof.Rows L2

/-- what objects name: the values of dicts, the names of classes, the code of functions -/
def valsOf (o : Obj) : List Addr := match o.data with
  | .dict es _ => es.toList.flatMap fun e => He.refV e.val
  | _ => []
def nsOf (o : Obj) : List Addr := match o.data with
  | .cls cd => [cd.ns]
  | _ => []
def codeOf (o : Obj) : List Addr := match o.data with
  | .func fd => He.refV fd.code
  | _ => []
def reach (g : Addr → Option Obj) (f : Obj → List Addr) (as : List Addr) : List Addr := as.flatMap fun a => match g a with
  | some o => f o
  | none => []
/-- the module's names, what they stand for, the classes' names, their methods, the codes of all -/
def adsM (g : Addr → Option Obj) : List Addr :=
  let l1 := reach g valsOf [mainGlobals]
  let l2 := reach g nsOf l1
  let l3 := reach g valsOf l2
  mainGlobals :: sysModules :: (l1 ++ (l2 ++ (l3 ++ reach g codeOf (l1 ++ l3))))
/-- that part of the heap -/
def frM (g : Addr → Option Obj) : PySem.W.Frag := He.frG g (adsM g)
def obsM (F : PySem.W.Frag → Bool) (fn : List He.FnD) (K : PySem.W.Frag) : He.Al :=
  (F K && fn.all fun d => PySem.W.keepIn K (.ref (He.fAd K d.at_)) && (He.Fa.code d.at_ d.qual).ok K, fn.map fun d => He.fnObs K d.at_)
def SaysM (F : PySem.W.Frag → Bool) (fn : List He.FnD) (K : PySem.W.Frag) : Prop := obsM F fn K = He.valE fn
def obsMG (F : PySem.W.Frag → Bool) (fn : List He.FnD) (g : Addr → Option Obj) : He.Al := obsM F fn (frM g)
def hookM (F : PySem.W.Frag → Bool) (fn : List He.FnD) : PySem.W.Hook where
  α := He.Al
  obs := fun s => obsMG F fn s.heap.get?
  val := fun _ => He.valE fn
  says := fun _ h => ∃ K : PySem.W.Frag, K.In h ∧ SaysM F fn K
  of := fun _ _ e => ⟨_, He.frG_in, e⟩
  keeps := fun _ _ _ ⟨K, hK, c⟩ k => ⟨K, PySem.W.Frag.In.keeps hK k, c⟩
theorem obsMG_eq {F : PySem.W.Frag → Bool} {fn : List He.FnD} {g : Addr → Option Obj} {s : Shared}
    (h : ∀ a, g a = s.heap.get? a) : obsMG F fn g = (hookM F fn).obs s := by
  have e : g = s.heap.get? := funext h
  rw [e] <;> rfl
section
variable {F : PySem.W.Frag → Bool} {fn : List He.FnD} {K : PySem.W.Frag}
theorem SaysM.fact (c : SaysM F fn K) : F K = true :=
  (He.ba (congrArg (fun z : He.Al => z.1) c)).1
/-- the def d of the text stands, and is called so -/
theorem SaysM.fun_ (c : SaysM F fn K) (i : Nat) {st : Stmt} {p : Str × Option Str} {x q : Str}
    (h : fn[i]? = some ⟨p, x, q, defArgs st, defBody st, defScope st⟩ := by rfl) :
    ∃ fd, Fun K x q st (He.fAd K p) fd := by
  have c1 := (He.ba (show (F K && fn.all fun d => PySem.W.keepIn K (.ref (He.fAd K d.at_)) && (He.Fa.code d.at_ d.qual).ok K) = true from
    congrArg (fun z : He.Al => z.1) c)).2
  have c2 := List.all_eq_true.mp c1 _ (List.mem_of_getElem? h)
  obtain ⟨kp, cd⟩ := He.ba c2
  have e : fn.map (fun d => He.fnObs K d.at_) = fn.map He.FnD.val := congrArg (fun z : He.Al => z.2) c
  have e2 : (fn.map fun d => He.fnObs K d.at_)[i]? = (fn.map He.FnD.val)[i]? := by rw [e]
  rw [List.getElem?_map, List.getElem?_map, h] at e2
  obtain ⟨oc, od, osl, kV, doc, pm, an, cdv, ct, lk, hc⟩ := He.fn_ok (Option.some.inj e2) cd
  exact ⟨_, fun_mk lk hc kp⟩
end

/-- a statement, then the rest, a word between them -/
def tMid (t u : TS) : TS := fun D σ H => ∃ M : L2.St → Hp → Prop, t { D with nx := M } σ H ∧ ∀ σ' H', M σ' H' → u D σ' H'
theorem pss_mid {X : Cx} {st : Stmt} {rest : List Stmt} {t u : TS} (h1 : PS X st t) (h2 : PSs X rest u) : PSs X (st :: rest) (tMid t u) := by
  constructor
  intro pins s σ H D I h
  obtain ⟨M, hm, hu⟩ := h
  refine wpAny_execs_cons (thn (h1.run pins s σ H { D with nx := M } I hm) ?_)
  intro f s1 q
  cases f with
  | next =>
    obtain ⟨σ', H', I', q⟩ := q
    exact h2.run pins s1 σ' H' D I' (hu σ' H' q)
  | ret v | brk | cont => exact q

/-- a def by its name: what it keeps, how it is called -/
structure Call (P : Program) (w : World) (K : PySem.W.Frag) (mg : Str → Option Value) (base : Heap) (CX : CXT)
    (k : Nat) (x : Str) (ps : List Str) (sp : Sp) : Prop where
  ex : ∃ f fd, FnG P w K mg base CX k f fd ps sp ∧ mg x = some (.ref f) ∧ PySem.W.keepIn K (.ref f) = true ∧ Binds K fd ps []
section
variable {X : Cx} {CX : CXT} {k : Nat} {ps : List Str} {sp : Sp} {E : XK} {x : Str} {p pos : Pos} {e : Expr} {es : List Expr} {t : TA}
theorem pe_do (F : Call X.prog X.w X.K X.mg X.base CX k x ps sp) (hr : Room k X.A)
    (hgd : X.A.guards = some []) (hg : Gl X x) (hx : Passes CX X E) (ha : PA X (e :: es) t)
    (hdb : (x == ("__debug__" : Str)) = false := by decide)
    (he : starEach (e :: es) X.env = (false, eval e X.env) :: starEach es X.env := by rfl)
    (hpl : (backTo pos (starEach es X.env)).any (·.1) = false := by rfl) :
    PE X (.Call (.Name x p) (e :: es) [] pos) (tCall sp [] E t) := by
  obtain ⟨f, fd, G, hm, hk, hb⟩ := F.ex
  exact pe_callG G hr hgd hg hm hk hb .nil hx ha hdb he hpl
end

/-- what a class like «class X(BASE): def __init__(self, FLD): self.FLD = FLD» needs to be made -/
structure NewAble (K : PySem.W.Frag) (mg : Str → Option Value) (x fld : Str) (C : Addr) : Prop where
  ex : ∃ (fI : Addr) (B newId initId : String) (bmB : List Value) (qual : Str) (fd : FuncData),
    ExK K C fI B newId initId bmB fld ∧ FieldName fld ∧ InitDef K fI qual fld fd ∧
    (∀ (u : Value) (s : Shared) (y : Addr), BindsTo s fd ⟨[.ref y, u], []⟩ [("self", .ref y), (fld, u)]) ∧
    ∀ (u : Value) (s : Shared) (y : Addr), BindsTo s fd ⟨[.ref y], [(fld, u)]⟩ [("self", .ref y), (fld, u)]
  gm : mg x = some (.ref C)
section
variable {X : Cx} {C : Addr} {x fld : Str} {p pos : Pos} {ee : Expr} {te : TE} {k : Nat}
theorem pe_new (N : NewAble X.K X.mg x fld C) (hr : Room k X.A) (hg : Gl X x) (he : PE X ee te)
    (hs : starEach [ee] X.env = (false, eval ee X.env) :: starEach [] X.env := by rfl)
    (hdb : (x == ("__debug__" : Str)) = false := by decide) :
    PE X (.Call (.Name x p) [ee] [] pos) (tNewX C fld te) := by
  obtain ⟨fI, B, newId, initId, bmB, qual, fd, Z, fn, D, b1, b2⟩ := N.ex
  exact pe_newX Z fn D hr b1 hg N.gm he hs hdb
theorem pe_newk {kpos : Pos} (N : NewAble X.K X.mg x fld C) (hr : Room k X.A) (hg : Gl X x) (he : PE X ee te)
    (hall : (backToKw pos (keywordEach [⟨some fld, ee, kpos⟩] X.env)).all (·.1.isSome) = true := by rfl)
    (hks : (backToKw pos (keywordEach [⟨some fld, ee, kpos⟩] X.env)).filterMap (·.1) = [fld] := by rfl)
    (hpl : ((backTo pos (starEach [] X.env)).any (·.1) || (backToKw pos (keywordEach [⟨some fld, ee, kpos⟩] X.env)).any (·.1.isNone)) = false := by rfl)
    (hdb : (x == ("__debug__" : Str)) = false := by decide) :
    PE X (.Call (.Name x p) [] [⟨some fld, ee, kpos⟩] pos) (tNewX C fld te) := by
  obtain ⟨fI, B, newId, initId, bmB, qual, fd, Z, fn, D, b1, b2⟩ := N.ex
  exact pe_newXk Z fn D hr b2 hg N.gm he hall hks hpl hdb
end

/-! ### the facts of an exception class, told by a Bool -/
/-- the three bases: the built-in class under which a class stands -/
inductive Kin where
  | v | l | a
def Kin.B : Kin → String
  | .v => "ValueError"
  | .l => "LookupError"
  | .a => "ArithmeticError"
def Kin.new : Kin → String
  | .v => "ValueError.__new__"
  | .l => "LookupError.__new__"
  | .a => "ArithmeticError.__new__"
def Kin.ini : Kin → String
  | .v => "ValueError.__init__"
  | .l => "LookupError.__init__"
  | .a => "ArithmeticError.__init__"
def Kin.mro (k : Kin) : List Value := [.type k.B, .type "Exception", .type "BaseException", .type "object"]
theorem Kin.base : ∀ k : Kin, ExcBaseFacts k.B k.new k.ini k.mro
  | .v => PySem.F.excBase_ValueError
  | .l => PySem.F.excBase_LookupError
  | .a => PySem.F.excBase_ArithmeticError
theorem Kin.store : ∀ k : Kin, StoreFacts k.B k.mro "object.__setattr__" "object"
  | .v => PySem.F.store_ValueError
  | .l => PySem.F.store_LookupError
  | .a => PySem.F.store_ArithmeticError
def exkB (K : PySem.W.Frag) (k : Kin) (x fld : Str) : Bool :=
  let C := He.ga K x
  PySem.W.excInitIn K C k.mro k.new && (PySem.W.excOver K C k.mro && (PySem.W.hasDictIn K C &&
  (He.eqO (PySem.W.findIn K (.ref C) "__setattr__") (some (some (.builtin "object.__setattr__"))) &&
  (He.eqO (PySem.W.takerIn K C fld) (some none) && (He.eqO (PySem.W.findIn K (.ref C) fld) (some none) &&
  (He.eqO (PySem.W.findIn K (.ref C) "__init__") (some (some (.ref (He.ma K C "__init__")))) &&
  (decide (PySem.W.typeIn K (.ref (He.ma K C "__init__")) = some (.type "function")) && PySem.W.keepIn K (.ref C))))))))
theorem exkB_ok {K : PySem.W.Frag} {k : Kin} {x fld : Str} (h : exkB K k x fld = true) :
    ExK K (He.ga K x) (He.ma K (He.ga K x) "__init__") k.B k.new k.ini k.mro fld := by
  obtain ⟨h1, h⟩ := He.ba h
  obtain ⟨h2, h⟩ := He.ba h
  obtain ⟨h3, h⟩ := He.ba h
  obtain ⟨h4, h⟩ := He.ba h
  obtain ⟨h5, h⟩ := He.ba h
  obtain ⟨h6, h⟩ := He.ba h
  obtain ⟨h7, h⟩ := He.ba h
  obtain ⟨h8, h9⟩ := He.ba h
  exact ⟨k.base, k.store, h1, h2, h3, He.eqO_ok h4, He.eqO_ok h5, He.eqO_ok h6, He.eqO_ok h7, of_decide_eq_true h8, h9⟩
def exaB (K : PySem.W.Frag) (x : Str) : Bool :=
  let C := He.ga K x
  He.eqO (PySem.W.findIn K (.ref C) "__getattribute__") (some (some (.builtin "BaseException.__getattribute__"))) &&
  (He.eqO (PySem.W.findIn K (.ref C) "__getattr__") (some none) &&
  (decide (PySem.W.subIn K (.ref C) (.type "BaseException") = some true) && (PySem.W.hasDictIn K C &&
  (He.eqO (PySem.W.findIn K (.ref C) "__class__") (some (some (.builtin "object.__class__"))) &&
  decide (PySem.W.mroIn K C (.type "object") = some true)))))
def exsB (K : PySem.W.Frag) : Bool :=
  He.eqO (PySem.W.specialIn K (.builtin "object.__class__") "__get__") (some (some (.builtin "getset_descriptor.__get__"))) &&
  decide (PySem.W.takesIn K (.builtin "object.__class__") = some true)
theorem exaB_ok {K : PySem.W.Frag} {x : Str} (h : exaB K x = true) (s : exsB K = true) : ExA K (He.ga K x) := by
  obtain ⟨h1, h⟩ := He.ba h
  obtain ⟨h2, h⟩ := He.ba h
  obtain ⟨h3, h⟩ := He.ba h
  obtain ⟨h4, h⟩ := He.ba h
  obtain ⟨h5, h6⟩ := He.ba h
  obtain ⟨s1, s2⟩ := He.ba s
  exact ⟨He.eqO_ok h1, He.eqO_ok h2, of_decide_eq_true h3, h4, He.eqO_ok h5, He.eqO_ok s1, of_decide_eq_true s2, of_decide_eq_true h6⟩

/-- its __init__, of the text st -/
theorem init_of {K : PySem.W.Frag} {f : Addr} {fd : FuncData} {qual fld : Str} {st : Stmt} {q1 q2 q3 q4 : Pos}
    (F : Fun K "__init__" qual st f fd)
    (hb : defBody st = [.Assign [.Attribute (.Name "self" q1) fld q2] (.Name fld q3) q4])
    (hs : defScope st = { kind := .function, names := [("self", .local), (fld, .local)], isGenerator := false, isCoroutine := false, more := [] }) :
    InitDef K f qual fld fd := by
  obtain ⟨oc, od, kV, doc, pm, an, cdv, ct, osl, rfl, lk, hcd⟩ := F.ex
  exact ⟨oc, od, kV, doc, pm, an, cdv, ct, osl, defArgs st, _, q1, q2, q3, q4, by rw [hb, hs], rfl, lk, hcd⟩
end Tc
/-! except (A, B, C) as n. -/
namespace Tc
open PySem PySem.Spec PyProof.Rows L2
theorem flying_on {B : Heap} {l : List Env} {e : Addr} {Z : Obj → Prop} {h h' : Heap} (k : ∀ b o, h.get? b = some o → h'.get? b = some o) (f : HandSPX.FlyingZ B l e Z h) : HandSPX.FlyingZ B l e Z h' := by
  obtain ⟨f1, f2, f3, oe, vs, T, oT, ts, q1, q2, q3, q4, q5, q6, q7, q8, q9⟩ := f
  exact ⟨fun b o z => k b o (f1 b o z), f2, f3.of_keeps (fun b o z _ => ⟨o, k b o z, rfl⟩), oe, vs, T, oT, ts, k _ _ q1, q2, q3, q4, q5, q6, k _ _ q7, q8, q9⟩
/-- what such a clause wishes: it takes whatever comes -/
def wAs3 (K : PySem.W.Frag) (cs : List Value) (i : Nat) (ts : Addr → Value → Option Addr → TS) (D : Ends) : WX := fun cls d σ H =>
  PySem.W.exmAny K cls cs = some true ∧ ∀ a, H a = none →
    ts a cls d { nx := fun σ' H' => D.nx (σ'.set i none) H', rt := D.rt, bk := fun σ' H' => D.bk (σ'.set i none) H', ct := fun σ' H' => D.ct (σ'.set i none) H' } (σ.set i (some (.ref a))) H
section
variable {X : Cx} {x1 x2 x3 n : Str} {c1 c2 c3 : Value} {i kk : Nat} {body suite : List Stmt} {b₀ : Stmt} {p1 p2 p3 tp pos pos' : Pos} {tb : WX → TS} {ts : Addr → Value → Option Addr → TS}
theorem ps_try_as3 (hs : X.stack = X.env :: X.outer) (hf : X.env.frame = some X.env.locals) (hN : X.N.Nodup) (hi : X.N[i]? = some n) (hln : X.env.kindOf n = some .local)
    (g1 : Gl X x1) (m1 : X.mg x1 = some c1) (g2 : Gl X x2) (m2 : X.mg x2 = some c2) (g3 : Gl X x3) (m3 : X.mg x3 = some c3)
    (hb : ∀ (W : WX) (pn : List (Addr × Obj)) (xe : Value → Shared → Prop), Takes (X.tr pn xe) W → PassesOwn (model X.prog X.w) X.A X.env xe → PSs (X.tr pn xe) body (tb W))
    (hsu : ∀ (a : Addr) (oe : Obj) (cls : Value) (d : Option Addr) (pn : List (Addr × Obj)), Zc cls d oe → (∃ vs, oe.data = .fields vs) → PSs (X.suite a ((a, oe) :: pn)) (b₀ :: suite) (ts a cls d))
    (d1 : (x1 == ("__debug__" : Str)) = false := by decide) (d2 : (x2 == ("__debug__" : Str)) = false := by decide) (d3 : (x3 == ("__debug__" : Str)) = false := by decide) :
    PS X (.Try body [.ExceptHandler (some (.Tuple [.Name x1 p1, .Name x2 p2, .Name x3 p3] kk tp)) (some n) (b₀ :: suite) pos'] [] [] pos) (fun D σ H => tb (wAs3 X.K [c1, c2, c3] i ts D) D σ H) := by
  constructor
  intro pins s σ H D I h
  have ok := I.ok
  have frm : X.A.frames = some (X.env :: X.outer) := by rw [ok.frames, hs]
  refine wpAny_Try_except ?_
  refine wpAny_mono ((hb (wAs3 X.K [c1, c2, c3] i ts D) (X.pn ++ pins)
    (fun e s₁ => wpAny (model X.prog X.w) X.A (noteFrame e X.env)
      (fun _ s₂ => wpAny (model X.prog X.w) X.A (setFlight e none)
        (fun _ s₃ => wpAny (model X.prog X.w) X.A (handleBy e X.env [.ExceptHandler (some (.Tuple [.Name x1 p1, .Name x2 p2, .Name x3 p3] kk tp)) (some n) (b₀ :: suite) pos']) (SP X pins D) X.xe s₃)
        X.xe s₂) X.xe s₁)
    (fun u s' xx => ?_) PassesOwn.looking).run [] s σ H D (I.toTry _) h) (fun f s1 hsp => ?_) (fun e s1 he => he)
  · obtain ⟨a, B, sI, pins', σ', H', cls, d, rfl, J', nb, up, sky, na, os, ag, hb1, hyes⟩ := xx
    have J : Inv X pins σ' H' sI := J'.ofTry ok
    rw [hs] at sky
    show wpAny (model X.prog X.w) X.A (noteFrame (.ref a) X.env) _ _ _
    refine Sky.land Zc.steady frm hf sky fun h3 fl3 up3 => ?_
    have J3 : Inv X pins σ' H' { s' with heap := h3 } := J.landed nb fl3.1 (up.trans up3) os ag
    obtain ⟨oe3, vs3, he3, hz3, hd3⟩ := fl3.there
    have nfr : a ∉ frs (X.env :: X.outer) := fun hm => by
      obtain ⟨_, o', e', hnf⟩ := fl3.2.2.1.mem hm
      rw [he3] at e'
      cases e'
      exact hnf _ hd3
    have nL : a ≠ X.env.locals := fun z =>
      nfr (List.mem_filterMap.mpr ⟨X.env, List.mem_cons_self, by rw [hf, z]⟩)
    have nF : a ∉ X.fs := fun hm => by
      obtain ⟨e, he, q⟩ := List.mem_filterMap.mp hm
      exact nfr (List.mem_filterMap.mpr ⟨e, List.mem_cons_of_mem _ he, q⟩)
    have S3 := J3.suite he3 hd3 na nL nF
    refine wpAny_handleBy_cons (codeAny_handlers_test ?_) (by intro q; cases q)
    -- the tuple of classes
    refine wpAny_Tuple_spliced ?_
    have nm : ∀ {x : Str} {c : Value} {p : Pos} {Q : Value → Shared → Prop} {E : Value → Shared → Prop}, Gl X x → X.mg x = some c → (x == ("__debug__" : Str)) = false → Q c { s' with heap := h3 } →
        wpAny (model X.prog X.w) (X.A.mark (some (.ref a))) (eval (.Name x p) X.env) Q E { s' with heap := h3 } := fun hg hm hd q =>
      ld_glob (X := X.suite a ((a, oe3) :: (X.pn ++ pins))) S3 hg hm q hd
    show wpAny _ _ (spliced [(false, eval (.Name x1 p1) X.env), (false, eval (.Name x2 p2) X.env), (false, eval (.Name x3 p3) X.env)]) _ _ _
    refine Calls.spliced_cons (nm g1 m1 d1 (Calls.spliced_cons (nm g2 m2 d2 (Calls.spliced_cons (nm g3 m3 d3 (Calls.spliced_nil ⟨by show 3 ≤ sizeLine; decide, ?_⟩))))))
    have kp : ∀ b o, h3.get? b = some o → (h3.push { cls := .type "tuple", data := .seq [c1, c2, c3].toArray }).get? b = some o := fun b o z => Heap.get?_push_of_some _ z
    have fl3' := flying_on kp fl3
    have up3' := (up.trans up3).trans (Heap.UpToSlots.of_keeps kp)
    have KX : X.K.In (h3.push { cls := .type "tuple", data := .seq [c1, c2, c3].toArray }) := fun b o z => kp b o (J3.kIn b o z)
    have LT : PySem.W.Looks (model X.prog X.w) (h3.push { cls := .type "tuple", data := .seq [c1, c2, c3].toArray }) (typeOf (.ref a)) cls := fun A Q E s k q =>
      wpAny_typeOf_ref (k _ _ (kp _ _ he3)) (by rw [hz3.1]; exact q)
    refine (PySem.W.exm_tup3 (M := model X.prog X.w) (tp := h3.objs.size) KX LT (Heap.get?_push_size _ rfl) hb1).here ?_
    refine codeAny_handlers_suite_as ?_
    refine HandSPX.lands_againZ fl3' fun h4 fl4 up4 => ?_
    have J4 : Inv X pins σ' H' { s' with heap := h4 } := J.landed nb fl4.1 (up3'.trans up4) os ag
    obtain ⟨oe4, vs4, he4, hz4, hd4⟩ := fl4.there
    have S4 := J4.suite he4 hd4 na nL nF
    refine store_ok (X := X.suite a ((a, oe4) :: (X.pn ++ pins))) (v := .ref a) S4 hN hi (.inl hln) rfl (fun s5 S5 => ?_) (.inr hln)
    refine wpAny_mono ((hsu a oe4 cls d (X.pn ++ pins) hz4 ⟨_, hd4⟩).run [] s5 _ H' _ S5 (hyes a na)) (fun f s6 hsp => ?_) (fun _ _ z => False.elim z)
    have out : ∀ {σ6 : L2.St} {H6 : Hp} {Q : Shared → Prop}, Inv (X.suite a ((a, oe4) :: (X.pn ++ pins))) [] σ6 H6 s6 → (∀ s7, Inv X pins (σ6.set i none) H6 s7 → Q s7) →
        wpAny (model X.prog X.w) X.A (do bindName X.env n .none; unbindBehindTheSuite X.env n pos') (fun _ s7 => Q s7) X.xe s6 := fun S6 hq => gone_ok (S6.unsuite ok) hN hi hln hq
    cases f with
    | ret u =>
      obtain ⟨v6, σ6, H6, S6, r6, q6⟩ := hsp
      exact out S6 fun s7 J7 => ⟨_, _, _, J7, r6, q6⟩
    | next | brk | cont =>
      obtain ⟨σ6, H6, S6, q6⟩ := hsp
      exact out S6 fun s7 J7 => ⟨_, _, J7, q6⟩
  · cases f with
    | ret u =>
      obtain ⟨v, σ', H', J', r, q⟩ := hsp
      exact ⟨v, σ', H', J'.ofTry ok, r, q⟩
    | next =>
      obtain ⟨σ', H', J', q⟩ := hsp
      exact wpAny_execs_nil ⟨σ', H', J'.ofTry ok, q⟩
    | brk | cont =>
      obtain ⟨σ', H', J', q⟩ := hsp
      exact ⟨σ', H', J'.ofTry ok, q⟩
end
end Tc
/-! raise X(e), X with its own __init__; what a suite asks of the exception that it holds. -/
namespace Tc
open PySem PySem.Spec PyProof.Rows L2
section
variable {X : Cx} {pins : List (Addr × Obj)} {σ : L2.St} {H : Hp} {C fI e d : Addr} {B newId initId : String}
  {bmB : List Value} {fld qual : Str} {fd : FuncData} {v : V} {u : Value}
/-- behind X(e): the exception itself is not tracked, its dict is -/
theorem made_up {hp h' : Heap} {g : Array GenState} {dr : Drawn} {tk tk' : Nat} {os : OsState}
    (I : Inv X pins σ H ⟨hp, g, dr, tk, os⟩) (M : MadeX hp h' e C d fld u) (rv : RelV v u) :
    H e = none ∧ H d = none ∧ d ≠ e ∧ ∃ G : Heap, Inv X pins σ (upd H d (.xd [(fld, v)])) ⟨G, g, dr, tk', os⟩ ∧ (∀ b o, G.get? b = some o → h'.get? b = some o) ∧ G.get? e = none := by
  have he : H e = none := I.hok.fresh M.new
  have hd : H d = none := I.hok.fresh M.big
  obtain ⟨G, g1, g2⟩ := restrict h' fun b => decide (b ≠ e)
  have gk : ∀ b, b ≠ e → G.get? b = h'.get? b := fun b hb => g1 b (decide_eq_true hb)
  have ge : G.get? e = none := g2 e (by simp)
  have old : ∀ b o, hp.get? b = some o → G.get? b = some o := by
    intro b o q
    have hb : b ≠ e := Nat.ne_of_lt (Nat.lt_of_lt_of_le (Heap.lt_size q) M.new)
    rw [gk b hb]
    exact M.keep b o q
  have one : ObjOk X.prog X.w (upd H d (.xd [(fld, v)])) G d (.xd [(fld, v)]) := by
    refine ⟨fun y => if y = fld then some u else none, M.ns.at fun o q => (gk d M.dne).trans q, relO_one rv⟩
  refine ⟨he, hd, M.dne, G, I.laid (t' := tk') old M.big one, fun b o q => ?_, ge⟩
  by_cases hb : b = e
  · rw [hb, ge] at q
    cases q
  · exact (gk b hb).symm.trans q
/-- raise's X(e) -/
def tMkX (C : Addr) (fld : Str) (te : TE) : L2.St → Hp → XK → Prop := fun σ H Q => te σ H fun v H1 => ∀ d, H1 d = none → Q (.ref C) (some d) (upd H1 d (.xd [(fld, v)]))
variable {x : Str} {p pos : Pos} {ee : Expr} {te : TE} {k : Nat}
theorem pmk_newX (N : NewAble X.K X.mg x fld C) (hE : PySem.W.subIn X.K (.ref C) (.type "BaseException") = some true) (hT : PySem.W.typeIn X.K (.ref C) = some (.type "type"))
    (hr : Room k X.A) (hg : Gl X x) (he : PE X ee te)
    (hs : starEach [ee] X.env = (false, eval ee X.env) :: starEach [] X.env := by rfl)
    (hdb : (x == ("__debug__" : Str)) = false := by decide) :
    PMk X (.Call (.Name x p) [ee] [] pos) (tMkX C fld te) := by
  obtain ⟨fI, B, newId, initId, bmB, qual, fd, Z, fn, D, b1, b2⟩ := N.ex
  intro pins s σ H Q I h
  refine wpAny_Call_Name_kw (ld_glob I hg N.gm ?_ hdb)
  refine PySem.W.callWith_K (h₀ := X.base) I.ok.mod.kin Z.kp ?_ hs (by rfl)
  rw [hs]
  show wpAny _ _ (spliced ((false, eval ee X.env) :: backTo pos (starEach [] X.env))) _ _ s
  refine Calls.spliced_cons (thn (he.run pins s σ H _ I h) ?_)
  rintro u s1 ⟨v, H1, I1, r1, q1⟩
  refine Calls.spliced_nil ⟨I1.kIn, ?_⟩
  obtain ⟨hp, g, dr, tk, os⟩ := s1
  refine wpAny_call (made_run (rest := [u]) (kw := []) Z fn D I1.kIn I1.nolimit (by have := hr.dp; omega) (by rw [sizeLine_eq]; show 1 ≤ 16777216; decide) (fun s y => b1 u s y) ?_)
  intro h' tk' e d M
  obtain ⟨he', hd', ne, G, J, kG, ge⟩ := made_up (tk' := tk') I1 M r1
  obtain ⟨t1, hob⟩ := M.obj
  exact ⟨e, _, _, ⟨G, g, dr, tk', os⟩, _, .ref C, some d, rfl, J, kG, ge, hob, ⟨rfl, rfl⟩, rfl, rfl, by rw [upd_ne ne.symm]; exact he', rfl, I1.bare, raises_own hE hT, q1 d hd'⟩
/-- isinstance(e, c), e the exception that the suite holds, its dict tracked -/
def rIsH (K : PySem.W.Frag) (a D d : Addr) : List V → Hp → VK → Prop := fun xs H Q => ∃ (c : V) (cv : Value) (b : Bool) (fs : List (Str × V)),
  xs = [.ref a, c] ∧ H d = some (.xd fs) ∧ ClsV c cv ∧ PySem.W.kitOne K (.ref D) cv = some b ∧ Q (.bl b) H
theorem call_isH {a D d : Addr} {oe : Obj} {pn : List (Addr × Obj)} (T : ExA X.K D) (hz : Zc (.ref D) (some d) oe) (hf : ∃ vs, oe.data = .fields vs) :
    CallR (X.suite a ((a, oe) :: pn)) (.builtin "isinstance") (rIsH X.K a D d) := by
  intro pins s σ H xs us Q I r h
  obtain ⟨c, cv, b, fs, rfl, hd, hc, e, q⟩ := h
  cases r with
  | cons rx rr =>
    cases rr with
    | cons rt rr =>
      cases rr
      cases rx
      have ec := hc.eq rt
      subst ec
      obtain ⟨ha, _⟩ := I.pin (a, oe) (List.mem_append_left _ List.mem_cons_self)
      obtain ⟨vs, hv⟩ := hf
      have hx : ObjOk X.prog X.w H s.heap d (.xd fs) := I.hok d _ hd
      obtain ⟨mA, hns, _⟩ := hx
      obtain ⟨od, ho, _⟩ := lookIn_ns hns
      have J : PySem.W.InstAt s.heap a oe D (some od) := ⟨ha, hz.1, by unfold PySem.W.notCls; rw [hv] <;> rfl, by rw [hz.2]; exact ho⟩
      have cl : (PySem.W.clsIn X.K D).isSome = true := by
        obtain ⟨cd, hcd, _⟩ := PySem.W.any_some T.own
        rw [hcd]
        rfl
      refine PySem.W.kia_one (PySem.W.kitx_exc cl T.ga T.gg T.ex T.kc T.sn T.tk T.mo) I.kIn J e (fun z => nomatch z) ?_
      intro tk
      exact ⟨.bl b, H, I.kept (t' := tk) fun _ _ z => z, rfl, q⟩
end
end Tc
/-! xs.count(b), xs a list of bools. -/
namespace Tc
open PySem PySem.Spec PyProof.Rows L2
def eqb (b : Bool) (v : Value) : Bool := match v with
  | .bool c => c == b
  | _ => false
/-- xs.count(b) -/
def rCntB (K : PySem.W.Frag) : V → List V → Hp → VK → Prop := fun x xs H Q => ∃ (p : Addr) (bs : List Bool) (b : Bool), x = .ref p ∧ xs = [.bl b] ∧ SqL K H p (bs.map V.bl) ∧ Q (.int (bs.count b : Nat)) H
theorem bools_are : ∀ {bs : List Bool} {us : List Value}, Vals (bs.map V.bl) us → us = bs.map Value.bool
  | [], _, h => by cases h; rfl
  | b :: bs, _, h => by
    cases h with
    | cons h1 h2 =>
      have e1 : _ = Value.bool b := h1
      rw [e1, bools_are h2]
      rfl
theorem mt_countB {X : Cx} : MtR X "list.count" (rCntB X.K) := by
  intro pins s σ H x xs v us Q I rx rxs h
  obtain ⟨p, bs, b, rfl, rfl, hs, q⟩ := h
  cases rx
  obtain ⟨u, rfl, ru⟩ := rxs.one
  obtain rfl : u = Value.bool b := ru
  obtain ⟨its, rv, ⟨⟨cls, dd, data, sl⟩, n, ho, hc, hdn, hd⟩, hlen⟩ := I.list hs
  simp only at hc hd
  subst hc hd
  obtain rfl := bools_are rv
  refine call_meets PySem.F.slot_list_count ⟨_, ho, rfl⟩ PySem.F.entry_list_count (PySem.F.args_list_count_2 _ _)
    (SeqAt.list_countAt p (bs.map Value.bool).toArray n dd sl (.bool b) (eqb b)) ⟨ho, fun y hy => ?_, ?_⟩
  · have hy : y ∈ bs.map Value.bool := by simpa using hy
    obtain ⟨c, _, rfl⟩ := List.mem_map.mp hy
    exact SeqAt.EqAt.bool_bool c b
  · have ec : (bs.map Value.bool).toArray.toList.countP (eqb b) = bs.count b := by
      show (bs.map Value.bool).countP (eqb b) = _
      rw [List.countP_map] <;> rfl
    refine ⟨.int (bs.count b : Nat), H, I.tok _, ⟨s.toks, ?_⟩, q⟩
    show Value.int _ s.toks = Value.int _ s.toks
    rw [ec]
end Tc
namespace Tc
open PySem PySem.Spec PyProof.Rows L2
mutual
theorem Dv.mono {H H' : Hp} (s : Same H H') : ∀ {v : V} {d : PyData}, Dv H v d → Dv H' v d
  | _, _, .non => .non
  | _, _, .bl b => .bl b
  | _, _, .int i => .int i
  | _, _, .str x => .str x
  | _, _, .lst h a => .lst (h.elim (fun z => .inl (s _ _ z)) fun ⟨o, z⟩ => .inr ⟨o, s _ _ z⟩) (DvAll.mono s a)
  | _, _, .tup h a => .tup (h.elim (fun z => .inl (s _ _ z)) fun ⟨o, z⟩ => .inr ⟨o, s _ _ z⟩) (DvAll.mono s a)
  | _, _, .dct h a => .dct (h.elim (fun z => .inl (s _ _ z)) fun ⟨o, z⟩ => .inr ⟨o, s _ _ z⟩) (DvKv.mono s a)
theorem DvAll.mono {H H' : Hp} (s : Same H H') : ∀ {vs : List V} {ds : List PyData}, DvAll H vs ds → DvAll H' vs ds
  | _, _, .nil => .nil
  | _, _, .cons a b => .cons (Dv.mono s a) (DvAll.mono s b)
theorem DvKv.mono {H H' : Hp} (s : Same H H') : ∀ {kvs : List (Key × V)} {ds : List (PyData × PyData)}, DvKv H kvs ds → DvKv H' kvs ds
  | _, _, .nil => .nil
  | _, _, .cons a b => .cons (Dv.mono s a) (DvKv.mono s b)
end
theorem Same.new {H : Hp} {p : Addr} {o : HO} (h : H p = none) : Same H (upd H p o) := fun b u e => by
  rw [upd_ne (ne_of_none e h)]
  exact e
theorem Same.new2 {H : Hp} {p : Addr} {o u : HO} (h : H p = none) : Same H (upd (upd H p o) p u) := fun b z e => by
  rw [upd_ne (ne_of_none e h), upd_ne (ne_of_none e h)]
  exact e
/-- data that repr shows -/
def Good (d : PyData) : Prop := d.showable = true ∧ d.depth ≤ 100 ∧ d.shown.length ≤ sizeLine
instance (d : PyData) : Decidable (Good d) := by unfold Good; exact inferInstance
/-- a def's call, told by what it keeps -/
theorem Call.of {P : Program} {w : World} {K : PySem.W.Frag} {mg : Str → Option Value} {base : Heap} {CX : CXT} {k : Nat} {x qual : Str} {st : Stmt} {f : Addr} {fd : FuncData} {ps : List Str} {sp : Sp}
    (F : Fun K x qual st f fd) (G : FnG P w K mg base CX k f fd ps sp) (gm : mg x = some (.ref f))
    (h : ∀ (kV doc pm : Value) (an : Option Addr) (cdv ct : Value) (us : List Value), us.length = ps.length → bindArgs (PySem.W.fnOf x qual (defArgs st) (defBody st) (defScope st) .none kV doc pm an cdv ct) ⟨us, []⟩ = pure (ps.zip us)) :
    Call P w K mg base CX k x ps sp := ⟨f, fd, G, gm, F.kp, F.binds h⟩
end Tc
namespace Tc
open PySem PySem.Spec PyProof.Rows L2 Evl
/-- the lists at ps -/
inductive LL (H : Hp) : List Addr → List (List V) → Prop
  | nil : LL H [] []
  | snoc {ps : List Addr} {xss : List (List V)} {p : Addr} {xs : List V} : LL H ps xss → H p = some (.lst xs) → LL H (ps ++ [p]) (xss ++ [xs])
theorem LL.mono {H H' : Hp} : ∀ {ps : List Addr} {xss : List (List V)}, LL H ps xss → (∀ p ∈ ps, ∀ o, H p = some o → H' p = some o) → LL H' ps xss
  | _, _, .nil, _ => .nil
  | _, _, .snoc r h, s => .snoc (r.mono fun p hp => s p (List.mem_append_left _ hp)) (s _ (by simp) _ h)
/-- [a new list for each turn] -/
theorem lc_ll {J : It} {n : Nat} {G : Hp → Prop} {Y : Nat → Hp → V → Hp → Prop} {te : TE} {vs : List Nat} {j : Nat} {σ : L2.St} {H1 : Hp} {D : Addr} {Qd : Hp → Prop} (w : Walk J n G Y) (xv : Nat → V) (c : Nat → List V)
    (hD : H1 D = none) (hn : n ≤ 1000) (hY : ∀ i H x H', i < n → Y i H x H' → H' = H ∧ x = xv i) (hG : ∀ H', Ex H1 H' → G H') (hw : ∀ x, wipe ((wipe σ vs).set j (some x)) vs = wipe σ vs)
    (he : ∀ i H', i < n → Ex H1 H' → EvL te ((wipe σ vs).set j (some (xv i))) H' (c i))
    (q : ∀ ps H', Ex H1 H' → H' D = some (.lst (ps.map V.ref)) → LL H' ps ((List.range n).map c) → Qd H') :
    ∃ W : Nat → Nat → Hp → Prop, (∃ m, W 0 m (upd H1 D (.lst []))) ∧ ∀ i m H, W i m H →
      (J.stop i H ∧ Qd H) ∨ (J.go i H ∧ ∃ Nx : Hp → Prop, (∀ H', Nx H' → ∃ m', m' < m ∧ W (i + 1) m' H') ∧ ∀ x H', J.yld i H x H' → gName j x (wipe σ vs) H' fun σ2 H2 => wipe σ2 vs = wipe σ vs ∧ tYes σ2 H2 fun b H3 =>
        if b = true then te σ2 H3 fun y H4 => ∃ acc, H4 D = some (.lst acc) ∧ acc.length < sizeLine ∧ Nx (upd H4 D (.lst (acc ++ [y]))) else Nx H3) := by
  refine lc_it w (fun i H' => Ex H1 H' ∧ ∃ ps : List Addr, ps.length = i ∧ i ≤ n ∧ H' D = some (.lst (ps.map V.ref)) ∧ D ∉ ps ∧ LL H' ps ((List.range i).map c))
    ⟨Ex.new hD, [], rfl, Nat.zero_le _, upd_same, by simp, .nil⟩ (fun i H' _ p => hG H' p.1) ?_ (fun H' p => ?_)
  · rintro i x H H' hi ⟨p1, ps, p2, p3, p4, p5, p6⟩ y
    obtain ⟨rfl, rfl⟩ := hY i H x H' hi y
    refine ⟨hw _, ?_⟩
    simp only [tYes, eq_self, if_true]
    refine he i H' hi p1 H' (Evl.Ex.refl H') _ fun p H4 hp e4 h4 => ?_
    have pD : p ≠ D := fun z => by
      rw [z, p4] at hp
      cases hp
    refine ⟨ps.map V.ref, e4 _ _ p4, by rw [List.length_map, p2]; exact Nat.lt_of_lt_of_le hi (Nat.le_trans hn (by decide)), Ex.mut (p1.trans e4) hD, ps ++ [p], by simp [p2], hi, by rw [upd_same, List.map_append]; rfl, ?_, ?_⟩
    · simp only [List.mem_append, List.mem_singleton, not_or]
      exact ⟨p5, fun z => pD z.symm⟩
    · rw [List.range_succ, List.map_append]
      refine LL.mono (.snoc (p6.mono fun a _ o z => e4 a o z) h4) fun a ha o z => ?_
      rw [upd_ne (fun z' => by
        rw [z'] at ha
        exact (by simpa using ha : D ∈ ps ∨ D = p).elim p5 fun z2 => pD z2.symm)]
      exact z
  · obtain ⟨p1, ps, p2, p3, p4, p5, p6⟩ := p
    exact q ps H' p1 p4 p6
theorem Call.mono {P : Program} {w : World} {K : PySem.W.Frag} {mg : Str → Option Value} {base : Heap} {CX : CXT} {j k : Nat} {x : Str} {ps : List Str} {sp : Sp} (F : Call P w K mg base CX j x ps sp) (h : j ≤ k) : Call P w K mg base CX k x ps sp := by
  obtain ⟨f, fd, G, r⟩ := F.ex
  exact ⟨f, fd, G.mono h, r⟩
/-- a whole number of the module -/
theorem pe_num {X : Cx} {x : Str} {n : Int} {p : Pos} (h : ∃ t, X.mg x = some (.int n t)) (hg : Gl X x) (hd : (x == ("__debug__" : Str)) = false := by decide) : PE X (.Name x p) (tC (.int n)) := by
  obtain ⟨t, e⟩ := h
  exact pe_glob hg e ⟨_, rfl⟩ hd
end Tc
/-! a op b op c op d; which class data are of. -/
namespace Tc
open PySem PySem.Spec PyProof.Rows L2
section
variable {X : Cx} {a b c d : Expr} {ta tb tc td : TE} {pos : Pos}
/-- a op b op c op d -/
def tChain3 (r r' r'' : R2) (ta tb tc td : TE) : TE := fun σ H Q => ta σ H fun x H1 => tb σ H1 fun y H2 => r x y H2 fun z H3 => ∃ k, z = .bl k ∧
  if k = true then tc σ H3 fun w H4 => r' y w H4 fun z H5 => ∃ k, z = .bl k ∧ (if k = true then td σ H5 fun v H6 => r'' w v H6 Q else Q (.bl false) H5)
  else Q (.bl false) H3
theorem pe_chain3 {op op' op'' : CmpOp} {r r' r'' : R2} (ho : OpR X (compareOp op) r) (ho' : OpR X (compareOp op') r') (ho'' : OpR X (compareOp op'') r'') (ha : PE X a ta) (hb : PE X b tb) (hc : PE X c tc) (hd : PE X d td)
    (hm : lastMarks [op, op', op''] [b, c, d] = false := by with_unfolding_all rfl) : PE X (.Compare a [op, op', op''] [b, c, d] pos) (tChain3 r r' r'' ta tb tc td) := by
  constructor
  intro pins s σ H Q I h
  refine Compare_chain (thn (ha.run pins s σ H _ I h) ?_) hm
  rintro v s1 ⟨x, H1, I1, r1, q1⟩
  refine chain_link (thn (hb.run pins s1 σ H1 _ I1 q1) ?_)
  rintro u s2 ⟨y, H2, I2, r2, q2⟩
  refine thn (ho pins s2 σ H2 x y v u _ I2 r1 r2 q2) ?_
  rintro e s3 ⟨z, H3, I3, r3, k, rfl, q3⟩
  cases r3
  refine wpAny_truthy_bool ?_
  cases k with
  | false => exact ite_ff ⟨.bl false, H3, I3, rfl, q3⟩
  | true =>
    refine ite_tt (chain_link (thn (hc.run pins s3 σ H3 _ I3 q3) ?_))
    rintro u4 s4 ⟨w, H4, I4, r4, q4⟩
    refine thn (ho' pins s4 σ H4 y w u u4 _ I4 r2 r4 q4) ?_
    rintro e s5 ⟨z, H5, I5, r5, k, rfl, q5⟩
    cases r5
    refine wpAny_truthy_bool ?_
    cases k with
    | false => exact ite_ff ⟨.bl false, H5, I5, rfl, q5⟩
    | true =>
      refine ite_tt (chain_last (thn (hd.run pins s5 σ H5 _ I5 q5) ?_))
      rintro u6 s6 ⟨v6, H6, I6, r6, q6⟩
      exact ho'' pins s6 σ H6 w v6 u4 u6 Q I6 r4 r6 q6
end
/-- the class of data -/
def tyD : PyData → String
  | .none => "NoneType"
  | .bool _ => "bool"
  | .int _ => "int"
  | .str _ => "str"
  | .list _ => "list"
  | .tuple _ => "tuple"
  | .dict _ => "dict"
theorem Dv.ty {K : PySem.W.Frag} {H : Hp} {v : V} {d : PyData} (h : Dv H v d) : TyX K H v (.type (tyD d)) := by
  cases h with
  | non => exact .base .non
  | bl b => exact .base (.bl b)
  | int i => exact .base (.int i)
  | str x => exact .base (.str x)
  | lst h _ => exact h.elim (fun h => .base (.lst h)) fun ⟨o, h⟩ => .base (.frz h)
  | tup h _ => exact h.elim (fun h => .base (.tup h)) fun ⟨o, h⟩ => .fTuple h
  | dct h _ => exact h.elim (fun h => .base (.dK h)) fun ⟨o, h⟩ => .fDict h
/-- isinstance of two built-in classes -/
def tyIs (a b : String) : Bool := (Value.type a == Value.type b) || ((fastBuiltinMro a).map fun l => l.contains (.type b)) == some true
theorem kit_ty {K : PySem.W.Frag} {a b : String} (h : (PySem.W.kitMeta b && (fastBuiltinMro a).isSome) = true) : PySem.W.kitOne K (.type a) (.type b) = some (tyIs a b) := by
  obtain ⟨h1, h2⟩ := Bool.and_eq_true_iff.mp h
  obtain ⟨l, hl⟩ := Option.isSome_iff_exists.mp h2
  unfold PySem.W.kitOne tyIs
  by_cases e : (Value.type a == Value.type b) = true
  · rw [if_pos e, e] <;> rfl
  · rw [if_neg e]
    have e2 : (Value.type a == Value.type b) = false := Bool.eq_false_iff.mpr e
    unfold PySem.W.kitCls
    show (if PySem.W.kitMeta b = true then PySem.W.subIn K (.type a) (.type b) else none) = _
    rw [if_pos h1, e2]
    show (fastBuiltinMro a).map _ = _
    rw [hl]
    show some (l.contains (Value.type b)) = some (false || (some (l.contains (Value.type b)) == some true))
    cases l.contains (Value.type b) <;> rfl
theorem metas : ∀ b ∈ ["int", "bool", "tuple", "str", "list"], ∀ a ∈ ["NoneType", "bool", "int", "str", "list", "tuple", "dict"], (PySem.W.kitMeta b && (fastBuiltinMro a).isSome) = true := by decide +kernel
theorem tyD_mem (d : PyData) : tyD d ∈ ["NoneType", "bool", "int", "str", "list", "tuple", "dict"] := by
  cases d <;> simp [tyD]
/-- isinstance(v, T), v data -/
theorem isi_D {K : PySem.W.Frag} {H : Hp} {v : V} {d : PyData} {T : String} {Q : VK} (h : Dv H v d) (hT : T ∈ ["int", "bool", "tuple", "str", "list"]) (q : Q (.bl (tyIs (tyD d) T)) H) : rIsi K [v, .ty T] H Q :=
  ⟨v, .ty T, _, _, _, rfl, .ty T, h.ty, kit_ty (metas T hT _ (tyD_mem d)), q⟩
/-- as a reading -/
theorem q_isi {K : PySem.W.Frag} {σ : L2.St} {i : Nat} {H : Hp} {v : V} {d : PyData} {T : String} {Q : VK} (hs : σ[i]? = some (some v)) (h : Dv H v d) (hT : T ∈ ["int", "bool", "tuple", "str", "list"]) (q : Q (.bl (tyIs (tyD d) T)) H) :
    tCB (rIsi K) (tCons (tVar i) (tCons (tC (.ty T)) tNil)) σ H Q := ⟨v, hs, isi_D (Q := Q) h hT q⟩
theorem ty_int : ∀ d : PyData, tyIs (tyD d) "int" = (match d with | .int _ => true | .bool _ => true | _ => false) := by
  have h : tyIs "NoneType" "int" = false ∧ tyIs "bool" "int" = true ∧ tyIs "int" "int" = true ∧ tyIs "str" "int" = false ∧ tyIs "list" "int" = false ∧ tyIs "tuple" "int" = false ∧ tyIs "dict" "int" = false := by decide +kernel
  obtain ⟨h1, h2, h3, h4, h5, h6, h7⟩ := h
  intro d
  cases d <;> simp only [tyD] <;> assumption
theorem ty_bool : ∀ d : PyData, tyIs (tyD d) "bool" = (match d with | .bool _ => true | _ => false) := by
  have h : tyIs "NoneType" "bool" = false ∧ tyIs "bool" "bool" = true ∧ tyIs "int" "bool" = false ∧ tyIs "str" "bool" = false ∧ tyIs "list" "bool" = false ∧ tyIs "tuple" "bool" = false ∧ tyIs "dict" "bool" = false := by decide +kernel
  obtain ⟨h1, h2, h3, h4, h5, h6, h7⟩ := h
  intro d
  cases d <;> simp only [tyD] <;> assumption
theorem ty_tuple : ∀ d : PyData, tyIs (tyD d) "tuple" = (match d with | .tuple _ => true | _ => false) := by
  have h : tyIs "NoneType" "tuple" = false ∧ tyIs "bool" "tuple" = false ∧ tyIs "int" "tuple" = false ∧ tyIs "str" "tuple" = false ∧ tyIs "list" "tuple" = false ∧ tyIs "tuple" "tuple" = true ∧ tyIs "dict" "tuple" = false := by decide +kernel
  obtain ⟨h1, h2, h3, h4, h5, h6, h7⟩ := h
  intro d
  cases d <;> simp only [tyD] <;> assumption
theorem ty_str : ∀ d : PyData, tyIs (tyD d) "str" = (match d with | .str _ => true | _ => false) := by
  have h : tyIs "NoneType" "str" = false ∧ tyIs "bool" "str" = false ∧ tyIs "int" "str" = false ∧ tyIs "str" "str" = true ∧ tyIs "list" "str" = false ∧ tyIs "tuple" "str" = false ∧ tyIs "dict" "str" = false := by decide +kernel
  obtain ⟨h1, h2, h3, h4, h5, h6, h7⟩ := h
  intro d
  cases d <;> simp only [tyD] <;> assumption
theorem Dv.isT {H : Hp} {v : V} {ds : List PyData} (h : Dv H v (.tuple ds)) : ∃ a xs, v = .ref a ∧ Rd H a (.tup xs) ∧ DvAll H xs ds := by
  cases h with
  | tup h1 h2 => exact ⟨_, _, rfl, h1, h2⟩
theorem DvAll.len {H : Hp} : ∀ {vs : List V} {ds : List PyData}, DvAll H vs ds → vs.length = ds.length
  | _, _, .nil => rfl
  | _, _, .cons _ h => congrArg Nat.succ h.len
end Tc
/-! calls of defs that may stand under a repr, by place and by name. -/
namespace Tc
open PySem PySem.Spec PyProof.Rows L2
/-- as Call, whoever calls -/
structure CallO (P : Program) (w : World) (K : PySem.W.Frag) (mg : Str → Option Value) (base : Heap) (CX : CXT)
    (k : Nat) (x : Str) (ps : List Str) (sp : Sp) : Prop where
  ex : ∃ f fd, FnOk P w K mg base CX k f fd ps sp ∧ mg x = some (.ref f) ∧ PySem.W.keepIn K (.ref f) = true ∧ Binds K fd ps []
theorem CallO.call {P : Program} {w : World} {K : PySem.W.Frag} {mg : Str → Option Value} {base : Heap} {CX : CXT} {k : Nat} {x : Str} {ps : List Str} {sp : Sp}
    (F : CallO P w K mg base CX k x ps sp) : Call P w K mg base CX k x ps sp := by
  obtain ⟨f, fd, G, r⟩ := F.ex
  exact ⟨f, fd, .of G, r⟩
theorem CallO.of {P : Program} {w : World} {K : PySem.W.Frag} {mg : Str → Option Value} {base : Heap} {CX : CXT} {k : Nat} {x qual : Str} {st : Stmt} {f : Addr} {fd : FuncData} {ps : List Str} {sp : Sp}
    (F : Fun K x qual st f fd) (G : FnOk P w K mg base CX k f fd ps sp) (gm : mg x = some (.ref f))
    (h : ∀ (kV doc pm : Value) (an : Option Addr) (cdv ct : Value) (us : List Value), us.length = ps.length → bindArgs (PySem.W.fnOf x qual (defArgs st) (defBody st) (defScope st) .none kV doc pm an cdv ct) ⟨us, []⟩ = pure (ps.zip us)) :
    CallO P w K mg base CX k x ps sp := ⟨f, fd, G, gm, F.kp, F.binds h⟩
/-- called by names alone: ns, which the values vs, put in order by pm, are for -/
structure CallK (P : Program) (w : World) (K : PySem.W.Frag) (mg : Str → Option Value) (base : Heap) (CX : CXT)
    (k : Nat) (x : Str) (ps : List Str) (sp : Sp) (ns : List Str) (pm : {α : Type} → List α → List α) : Prop where
  ex : ∃ f fd, FnOk P w K mg base CX k f fd ps sp ∧ mg x = some (.ref f) ∧ PySem.W.keepIn K (.ref f) = true ∧
    ∀ (s : Shared) (us : List Value), us.length = ns.length → BindsTo s fd ⟨[], ns.zip us⟩ (ps.zip (pm us))
  rel : ∀ {vs : List V} {us : List Value}, Vals vs us → Vals (pm vs) (pm us)
section
variable {X : Cx} {CX : CXT} {k : Nat} {ps ns : List Str} {sp : Sp} {E : XK} {x : Str} {p pos : Pos} {e : Expr} {es : List Expr} {t : TA} {pm : {α : Type} → List α → List α}
theorem pe_doO (F : CallO X.prog X.w X.K X.mg X.base CX k x ps sp) (hr : Room k X.A) (hg : Gl X x) (hx : Passes CX X E) (ha : PA X (e :: es) t)
    (hdb : (x == ("__debug__" : Str)) = false := by decide)
    (he : starEach (e :: es) X.env = (false, eval e X.env) :: starEach es X.env := by rfl)
    (hpl : (backTo pos (starEach es X.env)).any (·.1) = false := by rfl) :
    PE X (.Call (.Name x p) (e :: es) [] pos) (tCall sp [] E t) := by
  obtain ⟨f, fd, G, hm, hk, hb⟩ := F.ex
  exact pe_call G hr hg hm hk hb .nil hx ha hdb he hpl
def tCallK (sp : Sp) (pm : {α : Type} → List α → List α) (E : XK) (t : TA) : TE := fun σ H Q => t σ H fun vs H1 => sp (pm vs) H1 Q E
theorem pe_doK {ks : List Keyword} (F : CallK X.prog X.w X.K X.mg X.base CX k x ps sp ns pm) (hr : Room k X.A) (hg : Gl X x) (hx : Passes CX X E) (hk : PK X ks t)
    (hall : (backToKw pos (keywordEach ks X.env)).all (·.1.isSome) = true := by rfl)
    (hks : (backToKw pos (keywordEach ks X.env)).filterMap (·.1) = ns := by rfl)
    (hpl : ((backTo pos (starEach [] X.env)).any (·.1) || (backToKw pos (keywordEach ks X.env)).any (·.1.isNone)) = false := by rfl)
    (hl : ns.length = ks.length := by rfl) (hdb : (x == ("__debug__" : Str)) = false := by decide)
    (hlen : ∀ us vs H Q E, sp (pm vs) H Q E → Vals vs us → us.length = ns.length ∧ (pm us).length = ps.length) :
    PE X (.Call (.Name x p) [] ks pos) (tCallK sp pm E t) := by
  obtain ⟨f, fd, G, hm, kp, hb⟩ := F.ex
  constructor
  intro pins s σ H Q I h
  refine wpAny_Call_Name_kw (ld_glob I hg hm ?_ hdb)
  refine PySem.W.callWith_KW0 (h₀ := X.base) I.ok.mod.kin kp hall (thn (hk.run pos pins s σ H _ I h) ?_) hpl
  rintro us s1 ⟨vs, H1, I1, r, q⟩
  refine ⟨I1.kIn, ?_⟩
  rw [hks]
  have both := hlen us vs _ _ _ q r
  have main := G.run X.A X.stack s1 H1 ⟨[], ns.zip us⟩ (pm us) (pm vs) Q E hr I1.env0 (hb s1 us both.1) (F.rel r) q
  refine wpAny_call (codeAny_mono main ?_)
  intro res s' hq
  cases res with
  | error er => exact hx pins σ H1 s1 er s' I1 hq
  | ok fl =>
    cases fl with
    | ret u => exact I1.after hq
    | next | brk | cont => exact False.elim hq
end
end Tc
/-! The head's facts with the tables of defs that make lambdas; the law's end with these, no repr around. -/
namespace Tc
open PySem PySem.Spec PyProof.Rows L2
def frTM (g : Addr → Option Obj) : PySem.W.Frag := He.frT g (adsM g)
structure SaysTM (F : PySem.W.Frag → Bool) (fn : List He.FnD) (tf : List He.Defn) (h : Heap) (K : PySem.W.Frag) : Prop where
  core : SaysM F fn K
  hd : ∀ p ∈ tf, PySem.W.codeHdIn K (He.cT K p).1 (He.cT K p).2 = true
  out : ∀ p ∈ tf, K.lookup (He.cT K p).2 = none
  empty : ∀ p ∈ tf, h.get? (He.cT K p).2 = some { cls := .none, data := .fields #[] }
def obsTM (F : PySem.W.Frag → Bool) (fn : List He.FnD) (tf : List He.Defn) (g : Addr → Option Obj) : He.Al × Bool := (obsM F fn (frTM g), He.tabsB g tf (frTM g))
theorem saysTM_of {F : PySem.W.Frag → Bool} {fn : List He.FnD} {tf : List He.Defn} {h : Heap} (e : obsTM F fn tf h.get? = (He.valE fn, true)) : SaysTM F fn tf h (frTM h.get?) := by
  have e1 : obsM F fn (frTM h.get?) = He.valE fn := congrArg (fun z : He.Al × Bool => z.1) e
  have e2 : He.tabsB h.get? tf (frTM h.get?) = true := congrArg (fun z : He.Al × Bool => z.2) e
  have at_ : ∀ p ∈ tf, PySem.W.codeHdIn (frTM h.get?) (He.cT (frTM h.get?) p).1 (He.cT (frTM h.get?) p).2 = true ∧ ∃ o, h.get? (He.cT (frTM h.get?) p).2 = some o ∧ He.emptyTab o = true := by
    intro p hp
    obtain ⟨a, b⟩ := He.ba (List.all_eq_true.mp e2 p hp)
    refine ⟨a, ?_⟩
    cases q : h.get? (He.cT (frTM h.get?) p).2 with
    | none =>
      rw [q] at b
      cases b
    | some o =>
      rw [q] at b
      exact ⟨o, rfl, b⟩
  refine ⟨e1, fun p hp => (at_ p hp).1, fun p hp => ?_, fun p hp => ?_⟩
  · obtain ⟨_, o, q, z⟩ := at_ p hp
    exact He.frT_none q z
  · obtain ⟨_, o, q, z⟩ := at_ p hp
    rw [q, He.emptyTab_eq z]
def hookTM (F : PySem.W.Frag → Bool) (fn : List He.FnD) (tf : List He.Defn) : PySem.W.Hook where
  α := He.Al × Bool
  obs := fun s => obsTM F fn tf s.heap.get?
  val := fun _ => (He.valE fn, true)
  says := fun _ h => ∃ K : PySem.W.Frag, K.In h ∧ SaysTM F fn tf h K
  of := fun _ _ e => ⟨_, He.frT_in, saysTM_of e⟩
  keeps := fun _ _ _ ⟨K, hK, c⟩ k => ⟨K, PySem.W.Frag.In.keeps hK k, ⟨c.core, c.hd, c.out, fun p hp => k _ _ (c.empty p hp)⟩⟩
theorem obsTM_eq {F : PySem.W.Frag → Bool} {fn : List He.FnD} {tf : List He.Defn} {g : Addr → Option Obj} {s : Shared}
    (h : ∀ a, g a = s.heap.get? a) : obsTM F fn tf g = (hookTM F fn tf).obs s := by
  have e : g = s.heap.get? := funext h
  rw [e] <;> rfl
end Tc
namespace Tc
open PySem PySem.Spec PyProof.Rows L2
section
variable {P : Program} {w : World} {K : PySem.W.Frag} {mg mb : Str → Option Value} {CX : CXT}
  {k : Nat} {fa a : Addr} {cs : List (Addr × Addr)} {fd : FuncData} {x : Str} {sp : Sp} {s₁ : Shared} {vs : List Value} {ns : List Int}
/-- an empty table of code objects -/
abbrev tab0 : Obj := { cls := .none, data := .fields #[] }
abbrev scriptO (vs : List Value) : Obj := { cls := .type "list", data := .seq vs.toArray }
/-- the law's call, from a heap in which the tables and at most the script are tracked -/
theorem callT_from (KX : K.In s₁.heap) (hns : s₁.heap.Ns mainGlobals mg) (hb : s₁.heap.Ns builtinsNs mb)
    (hbb : ∀ y : Str, y ≠ "__name__" → mb y = bootBuiltins y) (hlim : s₁.heap.NoLimit) (hg : s₁.gens = #[])
    (hT : ∀ p ∈ cs, s₁.heap.get? p.2 = some tab0) (nT : ∀ p ∈ cs, K.lookup p.2 = none) (C : ∀ p ∈ cs, PySem.W.CodeHd s₁.heap p.1 p.2)
    (hbm : ∃ (bm : Addr) (ob : Obj), mg "__builtins__" = some (.ref bm) ∧ bm ≠ builtinsNs ∧ s₁.heap.get? bm = some ob ∧ ob.cls = .type "module" ∧ ob.dict = some builtinsNs ∧ ob.data = .plain)
    (ha : s₁.heap.get? a = some (scriptO vs)) (hr : Room k callerA)
    (F : ∀ base : Heap, K.In base → base.Ns mainGlobals mg → (∀ p ∈ cs, LamX.TabB base mg p.1 p.2) → FnG P w K mg base CX k fa fd [x] sp)
    (hbind : ∀ (s : Shared) (u : Value), BindsTo s fd ⟨[u], []⟩ [(x, u)])
    (hCX : ∀ H e s', CX [] H s₁ (fun _ _ _ => False) e s' → False)
    (H : Hp) (hH : ∀ p ∈ cs, H p.2 = some (.tbl #[])) (hO : ∀ b, H b = none ∨ b ∈ cs.map (·.2) ∨ ∃ o xs, H b = some (.frz o (.lst xs)))
    (hsp : sp [.ref a] H (fun v _ => v = .bl true) fun _ _ _ => False)
    (hok : HOk P w H s₁.heap) (hA : ∀ b, H b ≠ none → b = a ∨ b ∈ cs.map (·.2)) (hK : H a ≠ none → K.lookup a = none) :
    codeAny (model P w) callerA (.call (.ref fa) ⟨[.ref a], []⟩) (Behind s₁) s₁ := by
  have tabAt : ∀ b, b ∈ cs.map (·.2) → s₁.heap.get? b = some tab0 := by
    intro b hb
    obtain ⟨p, hp, rfl⟩ := List.mem_map.mp hb
    exact hT p hp
  have hid : ∀ {b : Addr} {o : Obj}, s₁.heap.get? b = some o → H b = none → (hidT s₁.heap H).get? b = some o := fun e n => hidT_get e n
  -- what is neither the script nor a table is not tracked
  have free : ∀ {b : Addr} {o : Obj}, s₁.heap.get? b = some o → (∀ vs n, o.data ≠ .seq vs n) → o.data ≠ .fields #[] → H b = none := by
    intro b o e h1 h2
    cases q : H b with
    | none => rfl
    | some u =>
      rcases hA b (by rw [q]; exact Option.some_ne_none u) with z | z
      · rw [z, ha] at e
        cases e
        exact (h1 _ _ rfl).elim
      · rw [tabAt b z] at e
        cases e
        exact (h2 rfl).elim
  have freeD : ∀ {b : Addr} {o : Obj} {es : Array DictEntry} {ep : Nat}, s₁.heap.get? b = some o → o.data = .dict es ep → H b = none := fun e d =>
    free e (fun vs n z => by rw [d] at z; cases z) (fun z => by rw [d] at z; cases z)
  have names : ∀ {b : Addr} {m : Str → Option Value}, s₁.heap.Ns b m → (hidT s₁.heap H).Ns b m := by
    rintro b m ⟨o, es, ep, e, d, r⟩
    exact ⟨o, es, ep, hid e (freeD e d), d, r⟩
  have written : K.In (hidT s₁.heap H) := by
    intro b o e
    refine hid (KX b o e) ?_
    cases q : H b with
    | none => rfl
    | some u =>
      rcases hA b (by rw [q]; exact Option.some_ne_none u) with z | z
      · rw [z] at e q
        rw [hK (by rw [q]; exact Option.some_ne_none u)] at e
        cases e
      · obtain ⟨p, hp, rfl⟩ := List.mem_map.mp z
        rw [nT p hp] at e
        cases e
  have TB : ∀ p ∈ cs, LamX.TabB (hidT s₁.heap H) mg p.1 p.2 := by
    intro p hp
    have here := hT p hp
    refine ⟨?_, ?_, ?_⟩
    · obtain ⟨o, us, file, tf, flags, tg, inF, text, tt, e1, r1, r2, r3, rest⟩ := C p hp
      refine ⟨o, us, file, tf, flags, tg, inF, text, tt, hid e1 (free e1 (fun vs n z => ?_) fun z => ?_), r1, r2, r3, rest⟩
      · rw [r2] at z
        cases z
      · rw [r2] at z
        cases z
        simp at r3
    · obtain ⟨bm, ob, b1, b2, b3, b4, b5, b6⟩ := hbm
      have nG : bm ≠ mainGlobals := by
        intro q
        obtain ⟨o, es, ep, e, d, _⟩ := hns
        rw [q, e] at b3
        cases b3
        rw [d] at b6
        cases b6
      have nP : bm ≠ p.2 := by
        intro q
        rw [q, here] at b3
        cases b3
        cases b6
      exact ⟨bm, ob, b1, b2, nG, nP, hid b3 (free b3 (fun vs n z => by rw [b6] at z; cases z) (fun z => by rw [b6] at z; cases z)), b4, b5, b6⟩
    · intro z
      obtain ⟨o, es, ep, e, d, _⟩ := hns
      rw [z, here] at e
      cases e
      cases d
  have e0 : Env0 P w K mg (hidT s₁.heap H) callerA [] s₁ H :=
    ⟨rfl, ⟨written, names hns, ⟨mb, names hb, hbb⟩, by obtain ⟨mc, h1, h2⟩ := hlim; exact ⟨mc, names h1, h2⟩⟩, fun b o e => of_hidT e, Nat.le_of_eq (hidT_size _ _), trivial,
      fun b h => (List.not_mem_nil (show b ∈ ([] : List Addr) from h)).elim, hok, .of_eq hg⟩
  have run := (F _ written (names hns) TB).run callerA [] s₁ H ⟨[.ref a], []⟩ [.ref a] [.ref a] _ _ hr rfl e0 (hbind s₁ (.ref a)) (.cons rfl .nil) hsp
  refine codeAny_mono run ?_
  intro r s' h
  rcases r with e | fl
  · exact (hCX H e s' h).elim
  cases fl with
  | next | brk | cont => exact False.elim h
  | ret u =>
    obtain ⟨v, H', os, bare, un, hok', rv, q⟩ := h
    have hv : v = .bl true := q
    subst hv
    have hu : u = Value.bool true := rv
    subst hu
    have old : ∀ b o, b ∉ cs.map (·.2) → s₁.heap.get? b = some o → s'.heap.get? b = some o := by
      intro b o nb e
      cases q : H b with
      | none => exact un.keep b o e q (fun z => nomatch (show b ∈ ([] : List Addr) from z)) (fun z => nomatch z)
      | some u =>
        rcases hO b with z | z | ⟨ob, xs, z⟩
        · rw [q] at z
          cases z
        · exact absurd z nb
        · have now := (hok b _ z).1
          have later := (hok' b _ (un.frzs b ob _ z)).1
          rw [e] at now
          cases now
          exact later
    have grown : ∀ p ∈ cs, ∃ more : Array Value, s'.heap.get? p.2 = some { cls := .none, data := .fields more } := by
      intro p hp
      obtain ⟨more, z⟩ := un.tbls p.2 #[] (hH p hp)
      exact ⟨_, hok' p.2 _ z⟩
    refine ⟨rfl, ⟨fun b o e => ?_, fun b o e => ?_⟩, os, bare⟩
    · by_cases hb : b ∈ cs.map (·.2)
      · obtain ⟨p, hp, rfl⟩ := List.mem_map.mp hb
        obtain ⟨more, hm⟩ := grown p hp
        rw [hT p hp] at e
        cases e
        exact .inr (.inl ⟨((C p hp).tab (hT p hp)).isCodeTable, rfl, #[], more, rfl, by rw [Array.empty_append]; exact hm⟩)
      · exact .inl (old b o hb e)
    · by_cases hb : b ∈ cs.map (·.2)
      · obtain ⟨p, hp, rfl⟩ := List.mem_map.mp hb
        obtain ⟨more, hm⟩ := grown p hp
        exact ⟨_, hm⟩
      · exact ⟨o, old b o hb e⟩
/-- the law's call -/
theorem law_callTG (KX : K.In s₁.heap) (hns : s₁.heap.Ns mainGlobals mg) (hb : s₁.heap.Ns builtinsNs mb)
    (hbb : ∀ y : Str, y ≠ "__name__" → mb y = bootBuiltins y) (hlim : s₁.heap.NoLimit) (hg : s₁.gens = #[])
    (hT : ∀ p ∈ cs, s₁.heap.get? p.2 = some tab0) (nT : ∀ p ∈ cs, K.lookup p.2 = none) (C : ∀ p ∈ cs, PySem.W.CodeHd s₁.heap p.1 p.2)
    (hbm : ∃ (bm : Addr) (ob : Obj), mg "__builtins__" = some (.ref bm) ∧ bm ≠ builtinsNs ∧ s₁.heap.get? bm = some ob ∧ ob.cls = .type "module" ∧ ob.dict = some builtinsNs ∧ ob.data = .plain)
    (ha : s₁.heap.get? a = some (scriptO vs)) (hi : IntsAre vs ns) (hl : ns.length ≤ sizeLine) (hr : Room k callerA)
    (F : ∀ base : Heap, K.In base → base.Ns mainGlobals mg → (∀ p ∈ cs, LamX.TabB base mg p.1 p.2) → FnG P w K mg base CX k fa fd [x] sp)
    (hbind : ∀ (s : Shared) (u : Value), BindsTo s fd ⟨[u], []⟩ [(x, u)])
    (hsp : ∀ H : Hp, (∀ p ∈ cs, H p.2 = some (.tbl #[])) → SqL K H a (ns.map V.int) → sp [.ref a] H (fun v _ => v = .bl true) fun _ _ _ => False)
    (hCX : ∀ H e s', CX [] H s₁ (fun _ _ _ => False) e s' → False) :
    codeAny (model P w) callerA (.call (.ref fa) ⟨[.ref a], []⟩) (Behind s₁) s₁ := by
  have rv := vals_ints hi
  have main := fun H hH hO hq => callT_from (sp := sp) KX hns hb hbb hlim hg hT nT C hbm ha hr F hbind hCX H hH hO hq
  have mem : ∀ p ∈ cs, p.2 ∈ cs.map (·.2) := fun p hp => List.mem_map.mpr ⟨p, hp, rfl⟩
  have tabAt : ∀ b, b ∈ cs.map (·.2) → s₁.heap.get? b = some tab0 := by
    intro b hb
    obtain ⟨p, hp, rfl⟩ := List.mem_map.mp hb
    exact hT p hp
  have aT : a ∉ cs.map (·.2) := by
    intro z
    have q := tabAt a z
    rw [ha] at q
    have z' : Data.seq vs.toArray _ = Data.fields #[] := congrArg Obj.data (Option.some.inj q)
    cases z'
  cases hk : K.lookup a with
  | some o =>
    have e := KX a o hk
    rw [ha] at e
    cases e
    let H : Hp := fun b => if b ∈ cs.map (·.2) then some (.tbl #[]) else none
    have on : ∀ {b : Addr}, b ∈ cs.map (·.2) → H b = some (.tbl #[]) := fun hb => if_pos hb
    have off : ∀ {b : Addr}, b ∉ cs.map (·.2) → H b = none := fun hb => if_neg hb
    refine main H (fun p hp => on (mem p hp)) (fun b => ?_) (hsp H (fun p hp => on (mem p hp)) (.inr ⟨_, vs.toArray, _, hk, rfl, rfl, rfl, ?_, by simpa using rv⟩)) (fun b u z => ?_) (fun b z => ?_) (fun z => absurd (off aT) z)
    · by_cases hb : b ∈ cs.map (·.2)
      · exact .inr (.inl hb)
      · exact .inl (off hb)
    · rw [List.size_toArray, hi.length]
      exact hl
    · by_cases hb : b ∈ cs.map (·.2)
      · rw [on hb] at z
        cases z
        exact tabAt b hb
      · rw [off hb] at z
        cases z
    · by_cases hb : b ∈ cs.map (·.2)
      · exact .inr hb
      · exact absurd (off hb) z
  | none =>
    let H : Hp := fun b => if b = a then some (.frz (scriptO vs) (.lst (ns.map V.int))) else if b ∈ cs.map (·.2) then some (.tbl #[]) else none
    have at_a : H a = some (.frz (scriptO vs) (.lst (ns.map V.int))) := if_pos rfl
    have on : ∀ {b : Addr}, b ∈ cs.map (·.2) → H b = some (.tbl #[]) := fun {b} hb => (if_neg (show ¬ b = a from fun z => aT (by rw [← z]; exact hb))).trans (if_pos hb)
    have off : ∀ {b : Addr}, b ≠ a → b ∉ cs.map (·.2) → H b = none := fun n hb => (if_neg n).trans (if_neg hb)
    refine main H (fun p hp => on (mem p hp)) (fun b => ?_) (hsp H (fun p hp => on (mem p hp)) (.inl (.inr ⟨_, at_a⟩))) (fun b u z => ?_) (fun b z => ?_) (fun _ => hk)
    · by_cases n : b = a
      · rw [n]
        exact .inr (.inr ⟨_, _, at_a⟩)
      · by_cases hb : b ∈ cs.map (·.2)
        · exact .inr (.inl hb)
        · exact .inl (off n hb)
    · by_cases n : b = a
      · subst n
        rw [at_a] at z
        cases z
        exact ⟨ha, by rw [List.length_map]; exact hl, vs, _, rv, ha⟩
      · by_cases hb : b ∈ cs.map (·.2)
        · rw [on hb] at z
          cases z
          exact tabAt b hb
        · rw [off n hb] at z
          cases z
    · by_cases n : b = a
      · exact .inl n
      · by_cases hb : b ∈ cs.map (·.2)
        · exact .inr hb
        · exact absurd (off n hb) z
end
/-- the end of a law's row, from a word about the head, with tables -/
theorem walk_endTG {l : PySem.W.OpenLaw} {n k : Nat} {q : Program} {loose : List Str} {XP : (Str → Option Value) → Heap → Prop} {YP : World → Heap → Prop} {d : DefRec} {CX : World → CXT} {x : Str}
    (hm : l.most = some n) (hs : n ≤ sizeLine) (h0 : d.params.defaults = []) (hr : Room k callerA)
    (F : ∀ (w : World) (mg : Str → Option Value) (fa : Addr) (h : Heap), YP w h → h.Ns mainGlobals mg → mg d.name = some (.ref fa) →
      ∃ (K : PySem.W.Frag) (fd : FuncData) (cs : List (Addr × Addr)) (sp : Sp), K.In h ∧ (∀ (s : Shared) (u : Value), BindsTo s fd ⟨[u], []⟩ [(x, u)]) ∧
        ((∀ p ∈ cs, h.get? p.2 = some tab0) ∧ (∀ p ∈ cs, K.lookup p.2 = none) ∧ ∀ p ∈ cs, PySem.W.CodeHd h p.1 p.2) ∧
        (∀ base : Heap, K.In base → base.Ns mainGlobals mg → (∀ p ∈ cs, LamX.TabB base mg p.1 p.2) → FnG l.prog w K mg base (CX w) k fa fd [x] sp) ∧
        ∀ (H : Hp) (a : Addr) (ns : List Int), ns.length ≤ n → (∀ p ∈ cs, H p.2 = some (.tbl #[])) → SqL K H a (ns.map V.int) → sp [.ref a] H (fun v _ => v = .bl true) fun _ _ _ => False)
    (hX : ∀ (w : World) (H : Hp) (s : Shared) (e : Value) (s' : Shared), ¬ CX w [] H s (fun _ _ _ => False) e s') :
    PySem.W.WalkO q loose XP YP l.row.toRowW d [] (fun f vs => PySem.call f vs) := by
  refine Att.attach_callB hm h0 ?_
  intro w s₀ s₁ mg mb fa o pm cd doc a vs ns G Y ho hd hcd hmg hobj hints hlen hbits hg
  obtain ⟨K, fd, cs, sp, KX, hb, ⟨hT, nT, C⟩, hF, hsp⟩ := F w mg fa _ Y G.T.g hmg
  exact law_callTG KX G.T.g G.T.b G.T.builtins G.T.nolimit hg hT nT C G.T.bmain hobj hints (Nat.le_trans hlen hs) hr hF hb
    (fun H hH hS => hsp H a ns hlen hH hS) (fun H e s' => hX w H s₁ e s')
end Tc
/-! Texts of numbers and of stretches: written, cut, read back. -/
namespace Tc
open PySem TL
abbrev val (l : List Nat) : Nat := NumText.digitsVal l
/-- the signs of a number as it is written -/
def canB (l : List Nat) : Bool := l.all (fun c => decide (48 ≤ c) && decide (c ≤ 57)) && (match l with
  | [] => false
  | c :: r => !(c == 48) || r.isEmpty)
theorem can_dig {l : List Nat} (h : canB l = true) : NumText.AllDigits l := fun c hc => by
  have z := List.all_eq_true.mp (Bool.and_eq_true_iff.mp h).1 c hc
  obtain ⟨h1, h2⟩ := Bool.and_eq_true_iff.mp z
  exact ⟨of_decide_eq_true h1, of_decide_eq_true h2⟩
theorem chars_back : ∀ {l : List Nat}, NumText.AllDigits l → (l.map Char.ofNat).map Char.toNat = l
  | [], _ => rfl
  | c :: r, h => by
    have hc := h c (.head _)
    have e : (Char.ofNat c).toNat = c := by
      have t : ∀ d : Nat, d < 10 → (Char.ofNat (48 + d)).toNat = 48 + d := by decide
      have z := t (c - 48) (by omega)
      rw [show 48 + (c - 48) = c by omega] at z
      exact z
    rw [List.map_cons, List.map_cons, e, chars_back fun d hd => h d (.tail _ hd)]
theorem can_num {l : List Nat} (h : canB l = true) : numL (val l) = l := by
  have hd := can_dig h
  cases l with
  | nil => exact absurd (Bool.and_eq_true_iff.mp h).2 (by decide)
  | cons c r =>
    have h2 : (!(c == 48) || r.isEmpty) = true := (Bool.and_eq_true_iff.mp h).2
    have hc := hd c (.head _)
    have z := NumText.toDigits_digitsVal r.length (c :: r) rfl hd (by
      rcases Bool.or_eq_true_iff.mp h2 with z | z
      · have : ¬ c = 48 := by simpa using z
        exact .inr ⟨c, r, rfl, by omega⟩
      · have : r = [] := by simpa using z
        exact .inl (by rw [this] <;> rfl))
    show (Nat.toDigits 10 (NumText.digitsVal (c :: r))).map Char.toNat = _
    rw [z]
    exact chars_back hd
theorem num_head : ∀ n : Nat, ∀ r, numL n = 48 :: r → r = [] := by
  intro n
  induction n using Nat.strongRecOn with
  | _ n ih =>
    intro r e
    by_cases h : n < 10
    · rw [numL_lt h] at e
      exact (List.cons.inj e).2.symm
    · rw [numL_step (by omega)] at e
      cases q : numL (n / 10) with
      | nil => exact absurd q (numL_ne _)
      | cons c r2 =>
        rw [q] at e
        have ec : c = 48 := (List.cons.inj e).1
        subst ec
        have e2 := ih (n / 10) (by omega) r2 q
        subst e2
        have v := numL_val (n / 10)
        rw [q] at v
        have v0 : NumText.digitsVal [48] = 0 := by decide
        rw [v0] at v
        omega
theorem num_can (n : Nat) : canB (numL n) = true := by
  refine Bool.and_eq_true_iff.mpr ⟨List.all_eq_true.mpr fun c hc => ?_, ?_⟩
  · obtain ⟨h1, h2⟩ := numL_digits n c hc
    rw [decide_eq_true h1, decide_eq_true h2] <;> rfl
  · cases q : numL n with
    | nil => exact absurd q (numL_ne _)
    | cons c r =>
      show (!(c == 48) || r.isEmpty) = true
      by_cases e : c = 48
      · subst e
        rw [num_head n r q]
        rfl
      · have : (c == 48) = false := by simpa using e
        rw [this] <;> rfl
/-! ### cut at the dashes -/
theorem pre_dash (c : Nat) (r : List Nat) : pre [45] (c :: r) = (c == 45) := by
  show ((c :: r).take 1 == [45]) = _
  simp
theorem spl_free : ∀ (l acc : List Nat), 45 ∉ acc → ∀ p ∈ spl [45] 0 acc l, 45 ∉ p
  | [], acc, h, p, hp => by
    rw [spl_nil] at hp
    rw [List.mem_singleton.mp hp]
    exact h
  | c :: r, acc, h, p, hp => by
    by_cases e : c = 45
    · rw [spl_hit (by rw [pre_dash, e] <;> rfl)] at hp
      rcases List.mem_cons.mp hp with z | z
      · rw [z]
        exact h
      · exact spl_free r [] (by simp) p z
    · rw [spl_miss (by rw [pre_dash]; simpa using e)] at hp
      refine spl_free r (acc ++ [c]) (fun z => ?_) p hp
      rcases List.mem_append.mp z with z | z
      · exact h z
      · exact e (List.mem_singleton.mp z).symm
theorem spl_ne : ∀ (l acc : List Nat), spl [45] 0 acc l ≠ []
  | [], acc => by rw [spl_nil]; simp
  | c :: r, acc => by
    by_cases e : c = 45
    · rw [spl_hit (by rw [pre_dash, e] <;> rfl)]
      simp
    · rw [spl_miss (by rw [pre_dash]; simpa using e)]
      exact spl_ne r _
theorem join_cons {S p : List Nat} {ps : List (List Nat)} (h : ps ≠ []) : joinL S (p :: ps) = p ++ (S ++ joinL S ps) := by
  cases ps with
  | nil => exact absurd rfl h
  | cons q r => rfl
theorem spl_back : ∀ (l acc : List Nat), joinL [45] (spl [45] 0 acc l) = acc ++ l
  | [], acc => by
    rw [spl_nil, List.append_nil]
    rfl
  | c :: r, acc => by
    by_cases e : c = 45
    · subst e
      rw [spl_hit (by rw [pre_dash] <;> rfl)]
      show joinL [45] (acc :: spl [45] 0 [] r) = acc ++ 45 :: r
      rw [join_cons (spl_ne _ _), spl_back r []]
      rfl
    · rw [spl_miss (by rw [pre_dash]; simpa using e), spl_back r (acc ++ [c]), List.append_assoc]
      rfl
/-- a stretch's signs -/
def spanL (a b : Nat) : List Nat := if a = b then numL a else numL a ++ (45 :: numL b)
/-- as the law reads the parts -/
def toldP : List (List Nat) → Option (Nat × Nat)
  | [p] => if canB p = true ∧ val p ≤ 4000 then some (val p, val p) else none
  | [p, q] => if canB p = true ∧ canB q = true ∧ val p < val q ∧ val q ≤ 4000 then some (val p, val q) else none
  | _ => none
/-- as the program does: its first part, its last one, and the text itself -/
def readP (p q l : List Nat) : Option (Nat × Nat) := if canB p = true ∧ canB q = true ∧ val p ≤ val q ∧ val q ≤ 4000 ∧ spanL (val p) (val q) = l then some (val p, val q) else none
theorem spl_span (a b : Nat) : spl [45] 0 [] (spanL a b) = if a = b then [numL a] else [numL a, numL b] := by
  unfold spanL
  have fr : ∀ n, 45 ∉ numL n := fun n => numL_free (.inl (by decide))
  by_cases e : a = b
  · rw [if_pos e, if_pos e]
    exact spl_join (s := 45) (S := []) (parts := [numL a]) (by simp) (by simpa using fr a)
  · rw [if_neg e, if_neg e]
    refine spl_join (s := 45) (S := []) (parts := [numL a, numL b]) (by simp) fun p hp => ?_
    rcases List.mem_cons.mp hp with z | z
    · rw [z]; exact fr a
    · rw [List.mem_singleton.mp z]; exact fr b
/-- both read the same -/
theorem read_told (l : List Nat) : ∀ ps, spl [45] 0 [] l = ps → readP (ps.headD []) (ps.getLastD []) l = toldP ps := by
  intro ps e
  have back := spl_back l []
  rw [e, List.nil_append] at back
  have fr := spl_free l [] (by simp)
  rw [e] at fr
  -- what the program takes is a stretch's text
  have cut : ∀ {p q : List Nat}, spanL (val p) (val q) = l → ps = if val p = val q then [numL (val p)] else [numL (val p), numL (val q)] := fun h => by
    rw [← e, ← h, spl_span]
  match ps with
  | [] => exact absurd e (spl_ne _ _)
  | [p] =>
    have hl : p = l := back
    show (if canB p = true ∧ canB p = true ∧ val p ≤ val p ∧ val p ≤ 4000 ∧ spanL (val p) (val p) = l then some (val p, val p) else none) = (if canB p = true ∧ val p ≤ 4000 then some (val p, val p) else none)
    by_cases h : canB p = true ∧ val p ≤ 4000
    · have key : spanL (val p) (val p) = l := by
        unfold spanL
        rw [if_pos rfl, can_num h.1]
        exact hl
      rw [if_pos h, if_pos ⟨h.1, h.1, Nat.le_refl _, h.2, key⟩]
    · rw [if_neg h, if_neg fun z => h ⟨z.1, z.2.2.2.1⟩]
  | [p, q] =>
    have hl : p ++ ([45] ++ q) = l := back
    show (if canB p = true ∧ canB q = true ∧ val p ≤ val q ∧ val q ≤ 4000 ∧ spanL (val p) (val q) = l then some (val p, val q) else none) = (if canB p = true ∧ canB q = true ∧ val p < val q ∧ val q ≤ 4000 then some (val p, val q) else none)
    by_cases h : canB p = true ∧ canB q = true ∧ val p < val q ∧ val q ≤ 4000
    · have key : spanL (val p) (val q) = l := by
        unfold spanL
        rw [if_neg (Nat.ne_of_lt h.2.2.1), can_num h.1, can_num h.2.1]
        exact hl
      rw [if_pos h, if_pos ⟨h.1, h.2.1, Nat.le_of_lt h.2.2.1, h.2.2.2, key⟩]
    · rw [if_neg h, if_neg fun z => h ⟨z.1, z.2.1, ?_, z.2.2.2.1⟩]
      have c := cut z.2.2.2.2
      by_cases e2 : val p = val q
      · rw [if_pos e2] at c
        exact absurd (congrArg List.length c) (by simp)
      · have := z.2.2.1
        omega
  | p :: q :: r :: s =>
    show readP p _ l = none
    unfold readP
    rw [if_neg fun z => ?_]
    have c := cut z.2.2.2.2
    by_cases e2 : val p = val ((p :: q :: r :: s).getLastD [])
    · rw [if_pos e2] at c
      exact absurd (congrArg List.length c) (by simp)
    · rw [if_neg e2] at c
      exact absurd (congrArg List.length c) (by simp)
end Tc
/-! Data that repr shows, told by what bounds them. -/
namespace Tc
open PySem PySem.Spec PyProof.Rows L2
structure Fine (d : PyData) (n k : Nat) : Prop where
  lay : d.canLay0 = true
  sh : d.showable = true
  short : d.intsShort 13 = true
  wt : d.weight ≤ n
  dp : d.depth ≤ k
structure FineAll (ds : List PyData) (n k : Nat) : Prop where
  lay : PyData.canLayAll0 ds = true
  sh : PyData.showableAll ds = true
  short : PyData.intsShortAll 13 ds = true
  wt : PyData.weightAll ds ≤ n
  dp : PyData.depthAll ds ≤ k
theorem Fine.good {d : PyData} {n k : Nat} (f : Fine d n k) (hn : n ≤ 1000000) (hk : k ≤ 60) : Good d := by
  refine ⟨f.sh, Nat.le_trans f.dp (by omega), ?_⟩
  have l : PyData.layable0 d = true := by
    unfold PyData.layable0
    have h1 : decide (PyData.depth d ≤ 64) = true := decide_eq_true (Nat.le_trans f.dp (by omega))
    have h2 : decide (PyData.weight d ≤ 2 ^ 20) = true := decide_eq_true (Nat.le_trans f.wt (by omega))
    rw [f.lay, h1, h2]
    rfl
  exact Nat.le_trans (shown_le13 l f.short) (by decide)
theorem Fine.mono {d : PyData} {n k m l : Nat} (f : Fine d n k) (h1 : n ≤ m) (h2 : k ≤ l) : Fine d m l := ⟨f.lay, f.sh, f.short, Nat.le_trans f.wt h1, Nat.le_trans f.dp h2⟩
theorem Fine.non : Fine .none 0 0 := ⟨rfl, rfl, rfl, Nat.le_refl 0, Nat.le_refl 0⟩
theorem Fine.bl (b : Bool) : Fine (.bool b) 0 0 := ⟨rfl, rfl, rfl, Nat.le_refl 0, Nat.le_refl 0⟩
theorem Fine.str {x : Str} (h : x.cps.all (· < 0x110000) = true) : Fine (.str x) x.length 0 := ⟨h, rfl, rfl, Nat.le_refl _, Nat.le_refl 0⟩
theorem Fine.int {i : Int} (h0 : -1 ≤ i) (h1 : i ≤ 100000) : Fine (.int i) 18 0 := by
  have hb : i.natAbs < 2 ^ 17 := by omega
  have lg : i.natAbs.log2 < 17 := by
    by_cases e : i.natAbs = 0
    · rw [e]
      decide
    · exact (Nat.log2_lt e).mpr hb
  refine ⟨rfl, decide_eq_true (by omega), ?_, ?_, Nat.le_refl 0⟩
  · refine decide_eq_true ?_
    show (Str.ofString (toString i)).length ≤ 13
    by_cases z : i = -1
    · rw [z]
      decide
    · exact Nat.le_trans (PyProof.Rows.toString_length_le (by omega) (k := 6) (by decide) (by omega)) (by decide)
  · show (if i == 0 then 0 else i.natAbs.log2 + 1) ≤ 18
    split <;> omega
theorem FineAll.nil {k : Nat} : FineAll [] 0 k := ⟨rfl, rfl, rfl, Nat.le_refl 0, Nat.zero_le k⟩
theorem FineAll.cons {d : PyData} {ds : List PyData} {n m k l : Nat} (f : Fine d n l) (g : FineAll ds m k) (h : l ≤ k) : FineAll (d :: ds) (n + 1 + m) k := by
  refine ⟨?_, ?_, ?_, ?_, ?_⟩
  · show (d.canLay0 && PyData.canLayAll0 ds) = true
    rw [f.lay, g.lay] <;> rfl
  · show (d.showable && PyData.showableAll ds) = true
    rw [f.sh, g.sh] <;> rfl
  · show (d.intsShort 13 && PyData.intsShortAll 13 ds) = true
    rw [f.short, g.short] <;> rfl
  · show d.weight + 1 + PyData.weightAll ds ≤ _
    have := f.wt
    have := g.wt
    omega
  · show max d.depth (PyData.depthAll ds) ≤ k
    have := f.dp
    have := g.dp
    omega
theorem Fine.lst {ds : List PyData} {n k : Nat} (f : FineAll ds n k) : Fine (.list ds) n (k + 1) := ⟨f.lay, f.sh, f.short, f.wt, Nat.succ_le_succ f.dp⟩
theorem Fine.tup {ds : List PyData} {n k : Nat} (f : FineAll ds n k) : Fine (.tuple ds) n (k + 1) := ⟨f.lay, f.sh, f.short, f.wt, Nat.succ_le_succ f.dp⟩
end Tc
/-! list of a text. -/
namespace Tc
open PySem PySem.Spec PyProof.Rows L2 TL
/-- list(z), z a text -/
def rListT : List V → Hp → VK → Prop := fun xs H Q => ∃ z : Str, xs = [.str z] ∧ z.length ≤ sizeLine ∧ ∀ p, H p = none → Q (.ref p) (upd H p (.lst ((tl z).map fun c => V.str ⟨#[c]⟩)))
theorem vals_of : ∀ {l : List Nat} {us : List Value}, us.length = l.length → (∀ (i c : Nat) (u : Value), l[i]? = some c → us[i]? = some u → ∃ t : Tok, u = Value.str ⟨#[c]⟩ t) → Vals (l.map fun c => V.str ⟨#[c]⟩) us
  | [], [], _, _ => .nil
  | c :: l, u :: us, h, k => .cons (k 0 c u rfl rfl) (vals_of (Nat.succ.inj h) fun i d v h1 h2 => k (i + 1) d v h1 h2)
theorem call_listT {X : Cx} (hc : X.calm = true) : CallR X (.type "list") rListT := by
  intro pins s σ H xs us Q I r h
  obtain ⟨z, rfl, hz, q⟩ := h
  obtain ⟨u, rfl, rx⟩ := vals1 r
  obtain ⟨t, rfl⟩ := rx
  refine call_list_str (I.ok.hd hc) z t (fun h' tk acc' c' kp e it => ?_) hz
  have hn : H s.heap.objs.size = none := I.hok.fresh (Nat.le_refl _)
  refine ⟨.ref s.heap.objs.size, _, I.laid (t' := tk) kp (Nat.le_refl _) (show ObjOk X.prog X.w _ h' _ (.lst ((tl z).map fun c => V.str ⟨#[c]⟩)) from ⟨?_, acc'.toList, c', ?_, e⟩), rfl, q _ hn⟩
  · rw [List.length_map, ← len_tl]
    exact hz
  · obtain ⟨i1, i2⟩ := it
    refine vals_of (by rw [Array.length_toList, i1]; rfl) fun i c v h1 h2 => ?_
    obtain ⟨d, t2, e1, e2⟩ := i2 i v (by rw [← h2]; exact Array.getElem?_toList.symm)
    have e3 : (tl z)[i]? = some d := by rw [← e1]; exact Array.getElem?_toList
    rw [h1] at e3
    cases e3
    exact ⟨t2, e2⟩
end Tc
/-! A def whose code object is known, for those that make lambdas. -/
namespace Tc
open PySem PySem.Spec PyProof.Rows L2
section
variable {P : Program} {w : World} {K : PySem.W.Frag} {mg : Str → Option Value} {base : Heap}
/-- as Fun.okG, its code object known -/
theorem Fun.okGC {CX : CXT} {x qual : Str} {st : Stmt} {f : Addr} {fd : FuncData} {N ps : List Str}
    {k : Nat} {sp : Sp} {c : Addr} (F : Fun K x qual st f fd) (hcode : fd.code = .ref c) (S : FnScope N ps (defScope st))
    (len : ∀ vs H Q E, sp vs H Q E → vs.length = ps.length)
    (hbody : ∀ (A : Around) (outer : List Env) (s : Shared) (H : Hp) (vs : List V)
      (Q : VK) (E : XK), Room k (A.deeper (envOfC qual (defScope st) s.heap.objs.size f (.ref c))) →
      (A.deeper (envOfC qual (defScope st) s.heap.objs.size f (.ref c))).guards = some [] →
      sp vs H Q E →
      ∃ t, PSs (cxOf CX P w K mg base N qual (defScope st) f (.ref c) A outer s H E) (defBody st) t ∧
        t { nx := fun _ H' => Q .non H', rt := Q } (start N vs) H) :
    FnG P w K mg base CX (k + 1) f fd ps sp := by
  obtain ⟨oc, od, kV, doc, pm, an, cdv, ct, osl, rfl, lk, hcd⟩ := F.ex
  have ec : cdv = .ref c := hcode
  subst ec
  refine ⟨len, ?_⟩
  intro A outer s H args us vs Q E hr hgd e0 hb r hsp
  have vl := len _ _ _ _ hsp
  have kin : K.In s.heap := e0.mod.kin.keeps (fun b o e => (e0.bs b o e).1)
  have nlim : s.heap.NoLimit := e0.mod.nolimit.keeps (fun b o e => (e0.bs b o e).1)
  have kinds : ∀ y ∈ ps.zip us, (defScope st).names.lookup y.1 = some .local ∨
      ((defScope st).names.lookup y.1 = some .cell ∧
        ((cellsFrom (s.heap.objs.size + 1) (defScope st).names []).lookup y.1).isSome = true) := by
    rintro ⟨n, v⟩ hy
    cases S.par n (List.of_mem_zip hy).1 with
    | inl q => exact .inl q
    | inr q => exact .inr ⟨q, PySem.W.cellsFrom_some _ _ _ (.inl q)⟩
  refine codeAny_call_function hr.depth (kin _ _ lk) rfl S.co S.gen rfl
    (PySem.W.codeRec_of kin hcd) (hb _ _ _ _ ?_)
  refine wpAny_newFunctionEnv_cells S.kind kinds (fun env he s1 x => ?_)
  subst he
  refine ⟨nlim.keeps x.toInCall.keep, codeAny_func ?_⟩
  obtain ⟨t, ht, hq⟩ := hbody A outer s H vs Q E (hr.deeper _) hgd hsp
  have I := inv_start (CX := CX) (P := P) (w := w) (mg := mg) (base := base) (E := E) S hr.hd e0 vl r x
  refine wpAny_mono (ht.run [] s1 (start N vs) H _ I hq) (fun fl s' hs => ?_) (fun e s' hs => hs)
  have close : ∀ {σ' : L2.St} {H' : Hp} {v : V} {u : Value},
      Inv (cxOf CX P w K mg base N qual (defScope st) f (.ref c) A outer s H E) [] σ' H' s' →
      RelV v u → Q v H' → CE outer P w H s Q u s' := by
    intro σ' H' v u J rv q
    exact ⟨v, H', J.os, J.bare, J.base, J.hok, rv, q⟩
  cases fl with
  | ret u => obtain ⟨v, σ', H', J, rv, q⟩ := hs; exact close J rv q
  | next => obtain ⟨σ', H', J, q⟩ := hs; exact close (v := V.non) (u := Value.none) J rfl q
  | brk => obtain ⟨_, _, _, q⟩ := hs; exact False.elim q
  | cont => obtain ⟨_, _, _, q⟩ := hs; exact False.elim q
end
end Tc
/-! Data and a list that changes. -/
namespace Tc
open PySem PySem.Spec PyProof.Rows L2
mutual
/-- data stay where only an object changes whose own data are deeper -/
theorem Dv.past {H H' : Hp} {g : Addr} {N : Nat} (hg : ∀ d, Dv H (.ref g) d → N < d.depth) (k : ∀ b o, H b = some o → b ≠ g → H' b = some o) : ∀ {v : V} {d : PyData}, Dv H v d → d.depth ≤ N → Dv H' v d
  | _, _, .non, _ => .non
  | _, _, .bl b, _ => .bl b
  | _, _, .int i, _ => .int i
  | _, _, .str x, _ => .str x
  | _, _, .lst (a := a) (ds := ds) h r, hd => by
    have n : a ≠ g := fun z => by
      have q := hg _ (by rw [← z]; exact .lst h r)
      omega
    have hd' : PyData.depthAll ds ≤ N := by
      have : PyData.depthAll ds + 1 ≤ N := hd
      omega
    exact .lst (h.elim (fun z => .inl (k _ _ z n)) fun ⟨o, z⟩ => .inr ⟨o, k _ _ z n⟩) (DvAll.past hg k r hd')
  | _, _, .tup (a := a) (ds := ds) h r, hd => by
    have n : a ≠ g := fun z => by
      have q := hg _ (by rw [← z]; exact .tup h r)
      omega
    have hd' : PyData.depthAll ds ≤ N := by
      have : PyData.depthAll ds + 1 ≤ N := hd
      omega
    exact .tup (h.elim (fun z => .inl (k _ _ z n)) fun ⟨o, z⟩ => .inr ⟨o, k _ _ z n⟩) (DvAll.past hg k r hd')
  | _, _, .dct (a := a) (ds := ds) h r, hd => by
    have n : a ≠ g := fun z => by
      have q := hg _ (by rw [← z]; exact .dct h r)
      omega
    have hd' : PyData.depthKv ds ≤ N := by
      have : PyData.depthKv ds + 1 ≤ N := hd
      omega
    exact .dct (h.elim (fun z => .inl (k _ _ z n)) fun ⟨o, z⟩ => .inr ⟨o, k _ _ z n⟩) (DvKv.past hg k r hd')
theorem DvAll.past {H H' : Hp} {g : Addr} {N : Nat} (hg : ∀ d, Dv H (.ref g) d → N < d.depth) (k : ∀ b o, H b = some o → b ≠ g → H' b = some o) : ∀ {vs : List V} {ds : List PyData}, DvAll H vs ds → PyData.depthAll ds ≤ N → DvAll H' vs ds
  | _, _, .nil, _ => .nil
  | _, _, .cons (d := d) (ds := ds) a b, hd => by
    have hd : max d.depth (PyData.depthAll ds) ≤ N := hd
    exact .cons (Dv.past hg k a (by omega)) (DvAll.past hg k b (by omega))
theorem DvKv.past {H H' : Hp} {g : Addr} {N : Nat} (hg : ∀ d, Dv H (.ref g) d → N < d.depth) (k : ∀ b o, H b = some o → b ≠ g → H' b = some o) : ∀ {kvs : List (Key × V)} {ds : List (PyData × PyData)}, DvKv H kvs ds → PyData.depthKv ds ≤ N → DvKv H' kvs ds
  | _, _, .nil, _ => .nil
  | _, _, .cons (k := kk) (d := d) (ds := ds) a b, hd => by
    have hd : max (max (kD kk).depth d.depth) (PyData.depthKv ds) ≤ N := hd
    exact .cons (Dv.past hg k a (by omega)) (DvKv.past hg k b (by omega))
end
theorem rd_one {H : Hp} {a : Addr} {u w : HO} (h : Rd H a u) (g : Rd H a w) (hu : ∀ o x, u ≠ .frz o x := by exact fun _ _ z => nomatch z) (hw : ∀ o x, w ≠ .frz o x := by exact fun _ _ z => nomatch z) : u = w := by
  rcases h with h | ⟨o, h⟩ <;> rcases g with g | ⟨o2, g⟩ <;> rw [h] at g <;> have e := Option.some.inj g
  · exact e
  · exact absurd e (hu _ _)
  · exact absurd e.symm (hw _ _)
  · cases e
    rfl
mutual
/-- a value is of one data alone -/
theorem Dv.one {H : Hp} : ∀ {v : V} {d e : PyData}, Dv H v d → Dv H v e → d = e
  | _, _, _, .non, h => by cases h; rfl
  | _, _, _, .bl b, h => by cases h; rfl
  | _, _, _, .int i, h => by cases h; rfl
  | _, _, _, .str x, h => by cases h; rfl
  | _, _, _, .lst h r, q => by
    cases q with
    | lst h2 r2 =>
      have e : HO.lst _ = HO.lst _ := rd_one h h2
      cases e
      rw [DvAll.one r r2]
    | tup h2 r2 => exact nomatch (show HO.lst _ = HO.tup _ from rd_one h h2)
    | dct h2 r2 => exact nomatch (show HO.lst _ = HO.dK _ from rd_one h h2)
  | _, _, _, .tup h r, q => by
    cases q with
    | tup h2 r2 =>
      have e : HO.tup _ = HO.tup _ := rd_one h h2
      cases e
      rw [DvAll.one r r2]
    | lst h2 r2 => exact nomatch (show HO.tup _ = HO.lst _ from rd_one h h2)
    | dct h2 r2 => exact nomatch (show HO.tup _ = HO.dK _ from rd_one h h2)
  | _, _, _, .dct h r, q => by
    cases q with
    | dct h2 r2 =>
      have e : HO.dK _ = HO.dK _ := rd_one h h2
      cases e
      rw [DvKv.one r r2]
    | tup h2 r2 => exact nomatch (show HO.dK _ = HO.tup _ from rd_one h h2)
    | lst h2 r2 => exact nomatch (show HO.dK _ = HO.lst _ from rd_one h h2)
theorem DvAll.one {H : Hp} : ∀ {vs : List V} {ds es : List PyData}, DvAll H vs ds → DvAll H vs es → ds = es
  | _, _, _, .nil, h => by cases h; rfl
  | _, _, _, .cons a b, h => by
    cases h with
    | cons a2 b2 => rw [Dv.one a a2, DvAll.one b b2]
theorem DvKv.one {H : Hp} : ∀ {kvs : List (Key × V)} {ds es : List (PyData × PyData)}, DvKv H kvs ds → DvKv H kvs es → ds = es
  | _, _, _, .nil, h => by cases h; rfl
  | _, _, _, .cons a b, h => by
    cases h with
    | cons a2 b2 => rw [Dv.one a a2, DvKv.one b b2]
end
end Tc
/-! Data and tables. -/
namespace Tc
open PySem PySem.Spec PyProof.Rows L2
open LamX (Tabs TabS ExtN CodeO)
mutual
theorem Dv.ext {H H' : Hp} (s : ExtN H H') : ∀ {v : V} {d : PyData}, Dv H v d → Dv H' v d
  | _, _, .non => .non
  | _, _, .bl b => .bl b
  | _, _, .int i => .int i
  | _, _, .str x => .str x
  | _, _, .lst h a => .lst (h.elim (fun z => .inl (s _ _ z fun _ e => nomatch e)) fun ⟨o, z⟩ => .inr ⟨o, s _ _ z fun _ e => nomatch e⟩) (DvAll.ext s a)
  | _, _, .tup h a => .tup (h.elim (fun z => .inl (s _ _ z fun _ e => nomatch e)) fun ⟨o, z⟩ => .inr ⟨o, s _ _ z fun _ e => nomatch e⟩) (DvAll.ext s a)
  | _, _, .dct h a => .dct (h.elim (fun z => .inl (s _ _ z fun _ e => nomatch e)) fun ⟨o, z⟩ => .inr ⟨o, s _ _ z fun _ e => nomatch e⟩) (DvKv.ext s a)
theorem DvAll.ext {H H' : Hp} (s : ExtN H H') : ∀ {vs : List V} {ds : List PyData}, DvAll H vs ds → DvAll H' vs ds
  | _, _, .nil => .nil
  | _, _, .cons a b => .cons (Dv.ext s a) (DvAll.ext s b)
theorem DvKv.ext {H H' : Hp} (s : ExtN H H') : ∀ {kvs : List (Key × V)} {ds : List (PyData × PyData)}, DvKv H kvs ds → DvKv H' kvs ds
  | _, _, .nil => .nil
  | _, _, .cons a b => .cons (Dv.ext s a) (DvKv.ext s b)
end
/-- tables stay where all but a list stays -/
theorem tabs_keep {T : List (Addr × Str)} {H H' : Hp} {a : Addr} {l : List V} (h : Tabs T H) (ha : H a = some (.lst l)) (k : ∀ b o, H b = some o → b ≠ a → H' b = some o) : Tabs T H' := by
  intro p hp
  obtain ⟨ps, h1, h2, h3⟩ := h p hp
  refine ⟨ps, k _ _ h1 (fun z => ?_), h2, fun pos cv hc => ?_⟩
  · rw [z, ha] at h1
    cases h1
  · obtain ⟨c, e1, e2⟩ := h3 pos cv hc
    refine ⟨c, e1, k _ _ e2 fun z => ?_⟩
    rw [z, ha] at e2
    exact nomatch (show HO.lst l = HO.ext _ from Option.some.inj e2)
end Tc
/-! Several clauses, each of them with a name: except A as n .. except B as n. -/
namespace Tc
open PySem PySem.Spec PyProof.Rows L2
/-- what such clauses wish, one after the other; one of them takes whatever comes -/
def wManyAs (K : PySem.W.Frag) (i : Nat) (D : Ends) : List (Value × (Addr → Value → Option Addr → TS)) → WX
  | [] => fun _ _ _ _ => False
  | (c, ts) :: r => fun cls d σ H => ∃ b, PySem.W.exmOne K cls c = some b ∧
      (b = true → ∀ a, H a = none → ts a cls d { nx := fun σ' H' => D.nx (σ'.set i none) H', rt := D.rt, bk := fun σ' H' => D.bk (σ'.set i none) H', ct := fun σ' H' => D.ct (σ'.set i none) H' } (σ.set i (some (.ref a))) H) ∧ (b = false → wManyAs K i D r cls d σ H)
inductive HdsAs (X : Cx) (n : Str) : List ExceptHandler → List (Value × (Addr → Value → Option Addr → TS)) → Prop
  | nil : HdsAs X n [] []
  | cons {x : Str} {c : Value} {ts : Addr → Value → Option Addr → TS} {b₀ : Stmt} {suite : List Stmt} {np pos' : Pos} {hds : List ExceptHandler} {l : List (Value × (Addr → Value → Option Addr → TS))} (hg : Gl X x) (hm : X.mg x = some c)
      (hsu : ∀ (a : Addr) (oe : Obj) (cls : Value) (d : Option Addr) (pn : List (Addr × Obj)), Zc cls d oe → (∃ vs, oe.data = .fields vs) → PSs (X.suite a ((a, oe) :: pn)) (b₀ :: suite) (ts a cls d)) (r : HdsAs X n hds l)
      (hd : (x == ("__debug__" : Str)) = false := by decide) :
      HdsAs X n (.ExceptHandler (some (.Name x np)) (some n) (b₀ :: suite) pos' :: hds) ((c, ts) :: l)
section
variable {X : Cx} {n : Str} {i : Nat} {body : List Stmt} {h₀ : ExceptHandler} {hds : List ExceptHandler} {l : List (Value × (Addr → Value → Option Addr → TS))} {pos : Pos} {tb : WX → TS}
theorem ps_try_manyAs (hs : X.stack = X.env :: X.outer) (hf : X.env.frame = some X.env.locals) (hN : X.N.Nodup) (hi : X.N[i]? = some n) (hln : X.env.kindOf n = some .local)
    (hb : ∀ (W : WX) (pn : List (Addr × Obj)) (xe : Value → Shared → Prop), Takes (X.tr pn xe) W → PassesOwn (model X.prog X.w) X.A X.env xe → PSs (X.tr pn xe) body (tb W))
    (hh : HdsAs X n (h₀ :: hds) l) : PS X (.Try body (h₀ :: hds) [] [] pos) (fun D σ H => tb (wManyAs X.K i D l) D σ H) := by
  constructor
  intro pins s σ H D I h
  have ok := I.ok
  have frm : X.A.frames = some (X.env :: X.outer) := by rw [ok.frames, hs]
  refine wpAny_Try_except ?_
  refine wpAny_mono ((hb (wManyAs X.K i D l) (X.pn ++ pins)
    (fun e s₁ => wpAny (model X.prog X.w) X.A (noteFrame e X.env)
      (fun _ s₂ => wpAny (model X.prog X.w) X.A (setFlight e none)
        (fun _ s₃ => wpAny (model X.prog X.w) X.A (handleBy e X.env (h₀ :: hds)) (SP X pins D) X.xe s₃)
        X.xe s₂) X.xe s₁)
    (fun u s' xx => ?_) PassesOwn.looking).run [] s σ H D (I.toTry _) h) (fun f s1 hsp => ?_) (fun e s1 he => he)
  · obtain ⟨a, B, sI, pins', σ', H', cls, d, rfl, J', nb, up, sky, na, os, ag, w⟩ := xx
    have J : Inv X pins σ' H' sI := J'.ofTry ok
    rw [hs] at sky
    show wpAny (model X.prog X.w) X.A (noteFrame (.ref a) X.env) _ _ _
    refine Sky.land Zc.steady frm hf sky fun h3 fl3 up3 => ?_
    have J3 : Inv X pins σ' H' { s' with heap := h3 } := J.landed nb fl3.1 (up.trans up3) os ag
    obtain ⟨oe3, vs3, he3, hz3, hd3⟩ := fl3.there
    have nfr : a ∉ frs (X.env :: X.outer) := fun hm => by
      obtain ⟨_, o', e', hnf⟩ := fl3.2.2.1.mem hm
      rw [he3] at e'
      cases e'
      exact hnf _ hd3
    have nL : a ≠ X.env.locals := fun z =>
      nfr (List.mem_filterMap.mpr ⟨X.env, List.mem_cons_self, by rw [hf, z]⟩)
    have nF : a ∉ X.fs := fun hm => by
      obtain ⟨e, he, q⟩ := List.mem_filterMap.mp hm
      exact nfr (List.mem_filterMap.mpr ⟨e, List.mem_cons_of_mem _ he, q⟩)
    have S3 := J3.suite he3 hd3 na nL nF
    have LT : PySem.W.Looks (model X.prog X.w) h3 (typeOf (.ref a)) cls := fun A Q E s k q =>
      wpAny_typeOf_ref (k _ _ he3) (by rw [hz3.1]; exact q)
    have go : ∀ {hds' : List ExceptHandler} {l' : List (Value × (Addr → Value → Option Addr → TS))}, HdsAs X n hds' l' → wManyAs X.K i D l' cls d σ' H' →
        wpAny (model X.prog X.w) X.A (handleBy (.ref a) X.env hds') (SP X pins D) X.xe { s' with heap := h3 } := by
      intro hds' l' hk
      induction hk with
      | nil => exact fun w => w.elim
      | @cons x c ts b₀ suite np pos' hds2 l2 hg hm hsu r hdb ih =>
        rintro ⟨b, hb1, hyes, hno⟩
        refine wpAny_handleBy_cons (codeAny_handlers_test ?_) (by intro q; cases q)
        have one := PySem.W.exm_one (M := model X.prog X.w) (J3.kIn) LT hb1
        refine ld_glob (X := X.suite a ((a, oe3) :: (X.pn ++ pins))) S3 hg hm (one.here ?_) hdb
        cases b with
        | false =>
          show wpAny _ X.A (handleBy (.ref a) X.env hds2) _ _ _
          exact ih (hno rfl)
        | true =>
          refine codeAny_handlers_suite_as ?_
          refine HandSPX.lands_againZ fl3 fun h4 fl4 up4 => ?_
          have J4 : Inv X pins σ' H' { s' with heap := h4 } := J.landed nb fl4.1 ((up.trans up3).trans up4) os ag
          obtain ⟨oe4, vs4, he4, hz4, hd4⟩ := fl4.there
          have S4 := J4.suite he4 hd4 na nL nF
          refine store_ok (X := X.suite a ((a, oe4) :: (X.pn ++ pins))) (v := .ref a) S4 hN hi (.inl hln) rfl (fun s5 S5 => ?_) (.inr hln)
          refine wpAny_mono ((hsu a oe4 cls d (X.pn ++ pins) hz4 ⟨_, hd4⟩).run [] s5 _ H' _ S5 (hyes rfl a na)) (fun f s6 hsp => ?_) (fun _ _ z => False.elim z)
          have out : ∀ {σ6 : L2.St} {H6 : Hp} {Q : Shared → Prop}, Inv (X.suite a ((a, oe4) :: (X.pn ++ pins))) [] σ6 H6 s6 → (∀ s7, Inv X pins (σ6.set i none) H6 s7 → Q s7) →
              wpAny (model X.prog X.w) X.A (do bindName X.env n .none; unbindBehindTheSuite X.env n pos') (fun _ s7 => Q s7) X.xe s6 := fun S6 hq => gone_ok (S6.unsuite ok) hN hi hln hq
          cases f with
          | ret u =>
            obtain ⟨v6, σ6, H6, S6, r6, q6⟩ := hsp
            exact out S6 fun s7 J7 => ⟨_, _, _, J7, r6, q6⟩
          | next | brk | cont =>
            obtain ⟨σ6, H6, S6, q6⟩ := hsp
            exact out S6 fun s7 J7 => ⟨_, _, J7, q6⟩
    exact go hh w
  · cases f with
    | ret u =>
      obtain ⟨v, σ', H', J', r, q⟩ := hsp
      exact ⟨v, σ', H', J'.ofTry ok, r, q⟩
    | next =>
      obtain ⟨σ', H', J', q⟩ := hsp
      exact wpAny_execs_nil ⟨σ', H', J'.ofTry ok, q⟩
    | brk | cont =>
      obtain ⟨σ', H', J', q⟩ := hsp
      exact ⟨σ', H', J'.ofTry ok, q⟩
end
end Tc
namespace K41
open PySem PySem.Spec PyProof.Rows L2 Tc
def topS (i : Nat) : Stmt := PySem.Challenge.pw_toldcounts_k41_whole_totals_and_people_f.main.body.getD i (.Pass ⟨0, 0, 0, 0⟩)
abbrev s_is_integer : Stmt := topS 9
abbrev s_is_number : Stmt := topS 10
abbrev s_is_stretch : Stmt := topS 12
abbrev s_is_scale : Stmt := topS 16
abbrev s_need_scale : Stmt := topS 17
abbrev s_is_places : Stmt := topS 18
abbrev s_need_places : Stmt := topS 19
abbrev s_need_people : Stmt := topS 20
abbrev s_need_most : Stmt := topS 21
abbrev s_need_number : Stmt := topS 22
abbrev s_nearest : Stmt := topS 23
abbrev s_mean_of : Stmt := topS 24
abbrev s_told_mean : Stmt := topS 25
abbrev s_totals_with : Stmt := topS 26
abbrev s_totals_for : Stmt := topS 27
abbrev s_people_for_mean : Stmt := topS 28
abbrev s_pail : Stmt := topS 30
abbrev s_sup : Stmt := topS 31
abbrev s_any : Stmt := topS 32
abbrev s_natural : Stmt := topS 33
abbrev s_whole : Stmt := topS 34
abbrev s_lis_scale : Stmt := topS 35
abbrev s_ends : Stmt := topS 36
abbrev s_ended : Stmt := topS 37
abbrev s_due : Stmt := topS 38
abbrev s_refused : Stmt := topS 39
abbrev s_people_right : Stmt := topS 40
abbrev s_right : Stmt := topS 41
abbrev s_law : Stmt := topS 42
def ex1 (x f : Str) (k : Kin) (n : Nat) : Str × Str × Kin × Nat := (x, f, k, n)
def al1 (x : Str) (k : Kin) : Str × Kin := (x, k)
def pl1 (x : Str) (n : Nat) : Str × Nat := (x, n)
def exs : List (Str × Str × Kin × Nat) := [ex1 "InvalidNumber" "given" .v 2, ex1 "InvalidPeople" "given" .v 3, ex1 "InvalidPlaces" "given" .v 4, ex1 "InvalidScale" "given" .v 5]
def alls : List (Str × Kin) := [al1 "InvalidNumber" .v, al1 "InvalidPeople" .v, al1 "InvalidPlaces" .v, al1 "InvalidScale" .v, al1 "WrongValue" .v]
def fplaces : List (Str × Nat) := [pl1 "is_integer" 9, pl1 "is_number" 10, pl1 "is_stretch" 12, pl1 "is_scale" 16, pl1 "need_scale" 17, pl1 "is_places" 18, pl1 "_need_places" 19, pl1 "need_people" 20, pl1 "_need_number" 22, pl1 "nearest" 23, pl1 "mean_of" 24, pl1 "told_mean" 25, pl1 "_totals_with" 26, pl1 "totals_for" 27, pl1 "people_for_mean" 28] ++
  [pl1 "_law_pail" 30, pl1 "_law_sup" 31, pl1 "_law_any" 32, pl1 "_law_natural" 33, pl1 "_law_whole" 34, pl1 "_law_is_scale" 35, pl1 "_law_ends" 36, pl1 "_law_ended" 37, pl1 "_law_due" 38, pl1 "_law_refused_right" 39, pl1 "_law_people_right" 40, pl1 "_law_right" 41, pl1 "law" 42, pl1 "need_most" 21]
def funs : List Str := fplaces.map (·.1)
def nums : List (Str × Int) := [("MOST_NUMBER", 4000), ("MOST_SCORE", 6), ("_MOST_MEANT", 3000)]
def frees : List Str := (["len", "int", "abs", "divmod", "range", "isinstance", "repr", "bool", "min", "max", "all", "tuple", "list"] : List String).map Str.ofString
def dInit (e : Str × Str × Kin × Nat) : He.FnD := ⟨(e.1, some "__init__"), "__init__", e.1 ++ ".__init__", defArgs (inClass (topS e.2.2.2) 0), defBody (inClass (topS e.2.2.2) 0), defScope (inClass (topS e.2.2.2) 0)⟩
def dFun (p : Str × Nat) : He.FnD := ⟨(p.1, none), p.1, p.1, defArgs (topS p.2), defBody (topS p.2), defScope (topS p.2)⟩
def fn : List He.FnD := fplaces.map dFun ++ exs.map dInit
def tf : List He.Defn := [("_law_refused_right", none)]
def mroB (K : PySem.W.Frag) (x : Str) (l : List Value) : Bool := (match PySem.W.clsIn K (He.ga K x) with
  | some cd => decide (cd.mro = l)
  | none => false) && decide (PySem.W.typeIn K (.ref (He.ga K x)) = some (.type "type"))
def mros (K : PySem.W.Frag) : Bool := exs.all (fun e => mroB K e.1 ([.ref (He.ga K e.1), .ref (He.ga K "WrongValue")] ++ e.2.2.1.mro)) && (mroB K "WrongValue" (.ref (He.ga K "WrongValue") :: Kin.v.mro) &&
  decide ((alls.map fun e => He.ga K e.1).Nodup))
def F (K : PySem.W.Frag) : Bool :=
  exs.all (fun e => exkB K e.2.2.1 e.1 e.2.1) && (alls.all (fun e => exaB K e.1 && (He.Fa.glo e.1).ok K) && (exsB K &&
  (funs.all (fun x => (He.Fa.glo x).ok K) && (frees.all (fun x => (He.Fa.free x).ok K) && (nums.all (fun e => (He.Fa.int e.1 e.2).ok K) &&
  ((He.Fa.glo "_TIMES").ok K && (He.tupB K "_TIMES" [.int 1, .int 10, .int 100] && (mros K && (K.lookup sysModules).isSome))))))))
abbrev R : PySem.W.OpenRow := PySem.W.OpenLaw.row PySem.Challenge.rw_toldcounts_k41_whole_totals_and_people_f
abbrev hk : PySem.W.Hook := hookTM F fn tf
def ob (s : PySem.W.SharedT) : He.Al × Bool := obsTM F fn tf (HandSHeadRun.getT s)
theorem ob_eq (s : PySem.W.SharedT) : ob s = hk.obs s.abs := obsTM_eq (HandSHeadRun.getT_eq s)
def loose : List Str := alls.map (·.1) ++ (nums.map (·.1) ++ ([("_TIMES" : Str)] ++ (("need_most" : Str) :: funs.take 27)))
theorem run (w : World) : HandSHeadRun.RunEq R (PySem.W.view R.prog [42]) hk ob 14000 loose w := by
  intro os
  kernel_rfl
end K41
namespace K41
open PySem PySem.Spec PyProof.Rows L2 Tc Evl
/-- built-ins that are called -/
structure Bl (mg : Str → Option Value) : Prop where
  len : mg "len" = none
  int : mg "int" = none
  abs : mg "abs" = none
  divmod : mg "divmod" = none
  range : mg "range" = none
  isinstance : mg "isinstance" = none
  repr : mg "repr" = none
  bool : mg "bool" = none
  min : mg "min" = none
  max : mg "max" = none
  all : mg "all" = none
  tuple : mg "tuple" = none
  list : mg "list" = none
/-- a pail stands at a -/
def Pail (H : Hp) (a : Addr) : Prop := ∃ m o : Int, H a = some (.lst [.int m, .int o]) ∧ 0 ≤ m ∧ 0 ≤ o
def But (a : Addr) (H H' : Hp) : Prop := ∀ b o, H b = some o → b ≠ a → H' b = some o
theorem But.trans {a : Addr} {H H1 H2 : Hp} (x : But a H H1) (y : But a H1 H2) : But a H H2 := fun b o e n => y b o (x b o e n) n
theorem But.refl (a : Addr) (H : Hp) : But a H H := fun _ _ e _ => e
theorem But.put {a : Addr} {H H1 : Hp} {o : HO} (x : But a H H1) : But a H (upd H1 a o) := fun b u e n => by
  rw [upd_ne n]
  exact x b u e n
theorem But.same {a : Addr} {H H1 H2 : Hp} (x : But a H H1) (y : Same H1 H2) : But a H H2 := fun b u e n => y b u (x b u e n)
theorem pail_same {H H' : Hp} {a : Addr} (h : Pail H a) (s : Same H H') : Pail H' a := by
  obtain ⟨m, o, h, r⟩ := h
  exact ⟨m, o, s _ _ h, r⟩
theorem pail_some {H : Hp} {a : Addr} (h : Pail H a) : ∃ o, H a = some o := by
  obtain ⟨m, o, h, _⟩ := h
  exact ⟨_, h⟩
theorem mem_of_cut {ns : List Int} {lo hi : Option Int} {i : Nat} {y : V} (h : (cutV (ns.map V.int) lo hi)[i]? = some y) : ∃ z, y = V.int z := by
  have m : y ∈ cutV (ns.map V.int) lo hi := List.mem_of_getElem? h
  have m2 := List.mem_of_mem_drop (List.mem_of_mem_take m)
  obtain ⟨z, _, e⟩ := List.mem_map.mp m2
  exact ⟨z, e.symm⟩
theorem emod_ge {a b : Int} (h : 0 < b) : 0 ≤ a % b := Int.emod_nonneg a (by omega)
theorem div_ok {i j : Int} (h : 0 < j) (h2 : j.natAbs < 2 ^ 600) : CDivW i j := wide_div h h2 (by decide) (by decide)
theorem divp_ok {i j : Int} (h : 0 < j) (h2 : j.natAbs < 2 ^ 600) : CDivP i j := ⟨h, PyProof.noPylong_of_log2 (div_ok (i := i) h h2).2⟩
section
variable {P : Program} {w : World} {K : PySem.W.Frag} {mg : Str → Option Value} {base : Heap}
theorem sc_pail : FnScope ["_law_script", "_law_turn", "_law_mixed", "_law_cell", "_law_own"] ["_law_script", "_law_turn"] (defScope s_pail) := ⟨rfl, rfl, rfl, by decide +kernel, rfl, by decide +kernel, by decide +kernel⟩
theorem g_pail : ∀ x ∈ (["int", "len", "abs"] : List Str), (defScope s_pail).names.lookup x = some .globalImplicit := by decide +kernel
def spPail (K : PySem.W.Frag) : Sp := fun vs H Q _ => ∃ (a : Addr) (ns : List Int) (k : Nat), vs = [.ref a, .int k] ∧ k < 5 ∧ SqL K H a (ns.map V.int) ∧ ns.length ≤ 63 ∧
  ∀ (H' : Hp) (p : Addr), H p = none → Same H H' → Pail H' p → Q (.ref p) H'
theorem ok_pail {f : Addr} {fd : FuncData} (F : Fun K "_law_pail" "_law_pail" s_pail f fd) (B : Bl mg) :
    FnOk P w K mg base CX0 1 f fd ["_law_script", "_law_turn"] (spPail K) := by
  refine F.ok sc_pail (fun vs H Q E h => ?_) (fun cdv A outer s H vs Q E hr h => ?_)
  · obtain ⟨a, ns, k, rfl, _⟩ := h
    rfl
  · obtain ⟨a, ns, k, rfl, hk, hS, hlen, hQ⟩ := h
    refine ⟨_, pss_cons (ps_set (i := 2) sc_pail.nd rfl (.inl rfl) (pe_op op_add pe_int (pe_op op_mul pe_int (pv 1))))
      (pss_cons (ps_for PassesOwn.never rfl (pi_list (pe_slice sl_list (pv 0) po_none (po_some pe_int))) (pg_name (i := 3) sc_pail.nd rfl (.inl rfl))
        (pss_one (ps_set (i := 2) sc_pail.nd rfl (.inl rfl) (pe_op op_mod (pe_callTy call_int1 (g_pail _ (.head _)) B.int (by decide +kernel)
          (pa_cons (pe_op op_add (pe_op op_add (pe_op op_mul (pv 2) pe_int) (pe_op op_mod (pe_callTy call_int1 (g_pail _ (.head _)) B.int (by decide +kernel) (pa_cons (pv 3) pa_nil)) pe_int)) pe_int) pa_nil)) pe_int))))
      (pss_mid (ps_set (i := 4) sc_pail.nd rfl (.inl rfl) (pe_ifExp (pt_cmpR op_lt (pv 1) (pe_callB call_len (g_pail _ (.tail _ (.head _))) B.len (by decide +kernel) (pa_cons (pv 0) pa_nil)) (nomark _))
        (pe_callTy call_int1 (g_pail _ (.head _)) B.int (by decide +kernel) (pa_cons (pe_ix ix_list (pv 0) (pv 1) (fun _ _ => rfl)) pa_nil)) pe_int))
      (pss_one (ps_ret (pe_lst (pa_cons (pv 2) (pa_cons (pe_ifExp (PW.pt (pw_or (pt_cmpR op_lt (pv 4) pe_int (nomark _)) (pw_or1 (pt_cmpR op_ge (pv 4) (pe_op op_pow pe_int pe_int) (nomark _)))))
        (pe_callB call_abs (g_pail _ (.tail _ (.tail _ (.head _)))) B.abs (by decide +kernel) (pa_cons (pv 4) pa_nil)) pe_int) pa_nil))))))), ?_⟩
    refine ⟨_, rfl, _, _, rfl, rfl, .inl ⟨by decide, by decide⟩, _, _, rfl, rfl, ?_⟩
    -- for cell in script[:12]
    refine ⟨_, rfl, _, rfl, a, _, rfl, hS, fun p hp => ?_⟩
    have s0 : Same H (upd H p (.lst (cutV (ns.map V.int) none (some 12)))) := fun b o e => by
      rw [upd_ne (ne_of_none e hp)]
      exact e
    refine ⟨p, rfl, ⟨_, .inl (.inl upd_same)⟩, for_list (K := K) (a := p) (xs := cutV (ns.map V.int) none (some 12))
      (fun _ σ H2 => ∃ (mixed : Int) (v : Option V), σ = [some (.ref a), some (.int k), some (.int mixed), v, none] ∧
        Same (upd H p (.lst (cutV (ns.map V.int) none (some 12)))) H2 ∧ 0 ≤ mixed)
      ⟨_, none, rfl, Same.refl _, by omega⟩ (fun _ _ _ _ ⟨_, _, _, s2, _⟩ => .inl (.inl (s2 _ _ upd_same))) ?_ ?_⟩
    · rintro i y σ H2 hi ⟨mixed, v, rfl, s2, h0⟩
      obtain ⟨z, rfl⟩ := mem_of_cut hi
      refine ⟨_, rfl, _, _, rfl, rfl, .inr ⟨by decide, by decide⟩, _, rfl, .inl ⟨_, rfl, _, _, rfl, rfl, ?_, _, _, rfl, rfl, _, _, rfl, rfl, .inl ⟨_, rfl, _, _, rfl, rfl, ?_, ?_⟩⟩⟩
      · show (0 : Int) < 1000003
        decide
      · show (0 : Int) < 2147483399
        decide
      · exact ⟨_, _, rfl, s2, emod_ge (by decide)⟩
    · rintro σ H2 ⟨mixed, v, rfl, s2, h0⟩
      have s3 : Same H H2 := s0.trans s2
      refine ⟨fun σ' H' => H' = H2 ∧ ∃ z : Int, σ' = [some (.ref a), some (.int k), some (.int mixed), v, some (.int z)], ?_, ?_⟩
      · refine ⟨_, rfl, _, rfl, _, _, rfl, .inl ⟨_, s3.seq hS, rfl⟩, _, _, rfl, rfl, _, rfl, ?_⟩
        refine ite2 (fun hc => ?_) (fun _ => ⟨rfl, 0, rfl⟩)
        rw [List.length_map] at hc
        have hk2 : k < ns.length := by have := of_decide_eq_true hc; omega
        have hat : atI (ns.map V.int) (k : Int) = some (V.int ns[k]) := atI_nat (by simp [hk2])
        exact ⟨_, rfl, _, rfl, a, _, _, _, rfl, rfl, s3.seq hS, hat, .inl ⟨_, rfl, rfl, _, rfl⟩⟩
      rintro σ' H' ⟨rfl, z, rfl⟩
      have absd : ∀ z : Int, 0 ≤ (if z < 0 then -z else z) := fun z => by split <;> omega
      have fin : ∀ d : Int, 0 ≤ d → ([V.int mixed, V.int d] : List V).length ≤ sizeLine ∧ ∀ p2, H' p2 = none → Q (.ref p2) (upd H' p2 (.lst [V.int mixed, V.int d])) := fun d hd => ⟨by show 2 ≤ sizeLine; decide, fun p2 hp2 => hQ _ p2 (s3.free hp2) (s3.trans (Same.new hp2)) ⟨_, _, upd_same, h0, hd⟩⟩
      refine ⟨_, rfl, _, rfl, _, _, rfl, rfl, _, rfl, ?_⟩
      refine ite2 (fun _ => ?_) (fun _ => ?_)
      · exact ⟨_, rfl, _, rfl, fin _ (absd _)⟩
      · refine ⟨_, rfl, _, _, rfl, rfl, ⟨by decide, by decide, by decide⟩, _, _, rfl, rfl, _, rfl, ?_⟩
        refine ite2 (fun _ => ?_) (fun _ => ?_)
        · exact ⟨_, rfl, _, rfl, fin _ (absd _)⟩
        · exact fin _ (by decide)
theorem sc_sup : FnScope ["_law_pail_here", "_law_many", "_law_part"] ["_law_pail_here", "_law_many"] (defScope s_sup) := ⟨rfl, rfl, rfl, by decide +kernel, rfl, by decide +kernel, by decide +kernel⟩
theorem g_sup : ∀ x ∈ (["divmod", "int"] : List Str), (defScope s_sup).names.lookup x = some .globalImplicit := by decide +kernel
def spSup : Sp := fun vs H Q _ => ∃ (a : Addr) (n : Int), vs = [.ref a, .int n] ∧ Pail H a ∧ 0 < n ∧ n.natAbs < 2 ^ 600 ∧
  ∀ (r : Int) (H' : Hp), 0 ≤ r → r < n → Pail H' a → But a H H' → Q (.int r) H'
theorem ok_sup {f : Addr} {fd : FuncData} (F : Fun K "_law_sup" "_law_sup" s_sup f fd) (B : Bl mg) :
    FnOk P w K mg base CX0 1 f fd ["_law_pail_here", "_law_many"] spSup := by
  refine F.ok sc_sup (fun vs H Q E h => ?_) (fun cdv A outer s H vs Q E hr h => ?_)
  · obtain ⟨a, n, rfl, _⟩ := h
    rfl
  · obtain ⟨a, n, rfl, ⟨m, o, ha, hm, ho⟩, hn, hn2, hQ⟩ := h
    refine ⟨_, pss_cons (ps_if (pt_cmpR op_gt (pe_ix ix_list (pv 0) pe_int (fun _ _ => rfl)) pe_int (nomark _))
        (pss_cons (ps_asg (pe_callB call_divmodW (g_sup _ (.head _)) B.divmod (by decide +kernel) (pa_cons (pe_ix ix_list (pv 0) pe_int (fun _ _ => rfl)) (pa_cons (pv 1) pa_nil)))
            (pg_tup (by rfl) (pgs_cons (pg_sub (pv 0) pe_int set_list) (pgs_cons (pg_name (i := 2) sc_sup.nd rfl (.inl rfl)) pgs_nil))))
          (pss_one (ps_ret (pv 2)))) pss_nil)
      (pss_cons (ps_asg (pe_op op_mod (pe_callTy call_int1 (g_sup _ (.tail _ (.head _))) B.int (by decide +kernel) (pa_cons (pe_op op_add (pe_op op_mul (pe_ix ix_list (pv 0) pe_int (fun _ _ => rfl)) pe_int) pe_int) pa_nil)) pe_int) (pg_sub (pv 0) pe_int set_list))
      (pss_one (ps_ret (pe_op op_mod (pe_callTy call_int1 (g_sup _ (.tail _ (.head _))) B.int (by decide +kernel) (pa_cons (pe_op op_fdiv (pe_ix ix_list (pv 0) pe_int (fun _ _ => rfl)) pe_int) pa_nil)) (pv 1))))), ?_⟩
    have hS : SqL K H a [.int m, .int o] := .inl (.inl ha)
    refine ⟨_, rfl, a, _, _, _, rfl, rfl, hS, rfl, _, _, rfl, rfl, _, rfl, ?_⟩
    refine ite2 (fun _ => ?_) (fun _ => ?_)
    · refine ⟨_, rfl, a, _, _, _, rfl, rfl, hS, rfl, _, rfl, _, _, rfl, divp_ok hn hn2, fun p hp => ?_⟩
      have pa : p ≠ a := fun e => by
        rw [e, ha] at hp
        cases hp
      refine ⟨p, _, rfl, .inl (.inl upd_same), rfl, _, _, rfl, _, rfl, a, _, _, 1, rfl, rfl, by rw [upd_ne pa.symm, ha], rfl, _, _, rfl, rfl, ?_⟩
      refine ⟨_, rfl, hQ _ _ (emod_ge hn) (Int.emod_lt_of_pos _ hn) ⟨_, _, upd_same, hm, Int.ediv_nonneg ho (by omega)⟩ ?_⟩
      exact ((But.refl a H).same (Same.new hp)).put
    · refine ⟨_, rfl, a, _, _, _, rfl, rfl, hS, rfl, _, _, rfl, rfl, .inr ⟨by decide, by decide⟩, _, _, rfl, rfl, .inl ⟨_, rfl, _, _, rfl, rfl, ?_, _, rfl, a, _, _, 0, rfl, rfl, ha, rfl, ?_⟩⟩
      · show (0 : Int) < 2147483399
        decide
      have h1 : 0 ≤ (m * 48271 + 11) % 2147483399 := emod_ge (by decide)
      have hS2 : SqL K (upd H a (.lst [.int ((m * 48271 + 11) % 2147483399), .int o])) a [.int ((m * 48271 + 11) % 2147483399), .int o] := .inl (.inl upd_same)
      refine ⟨_, rfl, a, _, _, _, rfl, rfl, hS2, rfl, _, _, rfl, rfl, ⟨by decide, by decide⟩, .inl ⟨_, rfl, _, rfl, _, _, rfl, rfl, hn, ?_⟩⟩
      exact hQ _ _ (emod_ge hn) (Int.emod_lt_of_pos _ hn) ⟨_, _, upd_same, h1, ho⟩ (But.refl a H).put
theorem sc_any : FnScope ["_law_pail_here", "_law_some"] ["_law_pail_here", "_law_some"] (defScope s_any) := ⟨rfl, rfl, rfl, by decide +kernel, rfl, by decide +kernel, by decide +kernel⟩
theorem g_any : ∀ x ∈ (["_law_sup", "len"] : List Str), (defScope s_any).names.lookup x = some .globalImplicit := by decide +kernel
def spAny : Sp := fun vs H Q _ => ∃ (a m : Addr) (xs : List V), vs = [.ref a, .ref m] ∧ Pail H a ∧ H m = some (.lst xs) ∧ m ≠ a ∧ 0 < xs.length ∧ xs.length ≤ 1000 ∧
  ∀ (v : V) (H' : Hp), v ∈ xs → Pail H' a → But a H H' → Q v H'
theorem ok_any {f : Addr} {fd : FuncData} (F : Fun K "_law_any" "_law_any" s_any f fd) (B : Bl mg)
    (D : CallO P w K mg base CX0 1 "_law_sup" ["_law_pail_here", "_law_many"] spSup) :
    FnOk P w K mg base CX0 2 f fd ["_law_pail_here", "_law_some"] spAny := by
  refine F.ok sc_any (fun vs H Q E h => ?_) (fun cdv A outer s H vs Q E hr h => ?_)
  · obtain ⟨a, m, xs, rfl, _⟩ := h
    rfl
  · obtain ⟨a, m, xs, rfl, hj, hm, hne, h0, h1, hQ⟩ := h
    refine ⟨_, pss_one (ps_ret (pe_ix ix_list (pv 1) (pe_doO D hr (g_any _ (.head _)) pass0 (pa_cons (pv 0) (pa_cons
      (pe_callB call_len (g_any _ (.tail _ (.head _))) B.len (by decide +kernel) (pa_cons (pv 1) pa_nil)) pa_nil))) (fun _ _ => rfl))), ?_⟩
    have big : ((xs.length : Nat) : Int).natAbs < 2 ^ 600 := Nat.lt_of_le_of_lt (show _ ≤ 1000 by omega) (by decide)
    refine ⟨_, rfl, _, rfl, _, rfl, _, _, rfl, .inl ⟨_, .inl (.inl hm), rfl⟩, a, _, rfl, hj, by omega, big, fun r H' hr0 hr1 hj' hb => ?_⟩
    have hlt : r.toNat < xs.length := by omega
    have hat : atI xs r = some xs[r.toNat] :=
      (congrArg (atI xs) (show r = ((r.toNat : Nat) : Int) by omega)).trans (atI_nat (by simp [hlt]))
    exact ⟨m, xs, r, _, rfl, rfl, .inl (.inl (hb m _ hm hne)), hat, hQ _ _ (List.getElem_mem hlt) hj' hb⟩
end
end K41
namespace K41
open PySem PySem.Spec PyProof.Rows L2 Tc Evl
def intB : PyData → Bool
  | .int _ => true
  | _ => false
def natB : PyData → Bool
  | .int i => decide (0 ≤ i)
  | _ => false
def posB : PyData → Bool
  | .int i => decide (1 ≤ i)
  | _ => false
def plB : PyData → Bool
  | .int i => decide (0 ≤ i) && decide (i < 3)
  | _ => false
theorem nat_int {d : PyData} (h : natB d = true) : ∃ i : Int, d = .int i ∧ 0 ≤ i := by
  cases d with
  | int i => exact ⟨i, rfl, of_decide_eq_true h⟩
  | _ => cases h
theorem pos_int {d : PyData} (h : posB d = true) : ∃ i : Int, d = .int i ∧ 1 ≤ i := by
  cases d with
  | int i => exact ⟨i, rfl, of_decide_eq_true h⟩
  | _ => cases h
theorem pl_int {d : PyData} (h : plB d = true) : ∃ i : Int, d = .int i ∧ 0 ≤ i ∧ i < 3 := by
  cases d with
  | int i =>
    obtain ⟨a, b⟩ := Bool.and_eq_true_iff.mp h
    exact ⟨i, rfl, of_decide_eq_true a, of_decide_eq_true b⟩
  | _ => cases h
def timesI (p : Int) : Int := if p = 0 then 1 else if p = 1 then 10 else 100
theorem times_le (p : Int) : 1 ≤ timesI p ∧ timesI p ≤ 100 := by
  unfold timesI
  split
  · omega
  · split <;> omega
theorem times_at {p : Int} (h0 : 0 ≤ p) (h1 : p < 3) : atI [V.int 1, V.int 10, V.int 100] p = some (.int (timesI p)) := by
  have : p = 0 ∨ p = 1 ∨ p = 2 := by omega
  rcases this with rfl | rfl | rfl <;> rfl
def nearI (a b : Int) : Int := (2 * a + b) / (2 * b)
def meanI (n t p : Int) : Int := nearI (timesI p * t) n
def spreadI (n t s p : Int) : Int := nearI (timesI p * (n * s - t * t)) (n * n)
/-- is it a stretch -/
def spanB : PyData → Bool
  | .tuple [.int a, .int b] => decide (0 ≤ a) && (decide (a ≤ b) && decide (b ≤ 4000))
  | _ => false
def scB : PyData → Bool
  | .tuple [.int a, .int b] => decide (0 ≤ a) && (decide (a ≤ b) && decide (b ≤ 6))
  | _ => false
theorem span_ends {d : PyData} (h : spanB d = true) : ∃ a b : Int, d = .tuple [.int a, .int b] ∧ 0 ≤ a ∧ a ≤ b ∧ b ≤ 4000 := by
  unfold spanB at h
  split at h
  · rename_i a b
    obtain ⟨h1, h⟩ := Bool.and_eq_true_iff.mp h
    obtain ⟨h2, h3⟩ := Bool.and_eq_true_iff.mp h
    exact ⟨a, b, rfl, of_decide_eq_true h1, of_decide_eq_true h2, of_decide_eq_true h3⟩
  · cases h
theorem sc_ends {d : PyData} (h : scB d = true) : ∃ a b : Int, d = .tuple [.int a, .int b] ∧ 0 ≤ a ∧ a ≤ b ∧ b ≤ 6 := by
  unfold scB at h
  split at h
  · rename_i a b
    obtain ⟨h1, h⟩ := Bool.and_eq_true_iff.mp h
    obtain ⟨h2, h3⟩ := Bool.and_eq_true_iff.mp h
    exact ⟨a, b, rfl, of_decide_eq_true h1, of_decide_eq_true h2, of_decide_eq_true h3⟩
  · cases h
theorem sc_of {a b : Int} (h0 : 0 ≤ a) (h1 : a ≤ b) (h2 : b ≤ 6) : scB (.tuple [.int a, .int b]) = true := by
  show (decide (0 ≤ a) && (decide (a ≤ b) && decide (b ≤ 6))) = true
  rw [decide_eq_true h0, decide_eq_true h1, decide_eq_true h2] <;> rfl
theorem sc_no {d : PyData} (h : spanB d = false) : scB d = false := by
  cases e : scB d with
  | false => rfl
  | true =>
    obtain ⟨a, b, rfl, h0, h1, h2⟩ := sc_ends e
    have z : (decide (0 ≤ a) && (decide (a ≤ b) && decide (b ≤ 4000))) = false := h
    rw [decide_eq_true h0, decide_eq_true h1, decide_eq_true (show b ≤ 4000 by omega)] at z
    cases z
structure Tm (K : PySem.W.Frag) (mg : Str → Option Value) (TA : Addr) : Prop where
  gm : mg "_TIMES" = some (.ref TA)
  sq : ∀ H, SqT K H TA [V.int 1, V.int 10, V.int 100]
/-- it is raised, v kept -/
def up (C : Addr) (v : V) (H : Hp) (E : XK) : Prop := ∀ dd, H dd = none → E (.ref C) (some dd) (upd H dd (.xd [("given", v)]))
/-- what raising asks of the class -/
structure Rs (K : PySem.W.Frag) (mg : Str → Option Value) (x : Str) (C : Addr) : Prop where
  nw : NewAble K mg x "given" C
  ex : PySem.W.subIn K (.ref C) (.type "BaseException") = some true
  ty : PySem.W.typeIn K (.ref C) = some (.type "type")
def spB (f : PyData → Bool) : Sp := fun vs H Q _ => ∃ (v : V) (d : PyData), vs = [v] ∧ Dv H v d ∧ Q (.bl (f d)) H
/-- an int within the bound -/
def Bd (d : PyData) : Prop := ∀ i, d = .int i → i.natAbs < 2 ^ 250
section
variable {P : Program} {w : World} {K : PySem.W.Frag} {mg : Str → Option Value} {base : Heap}
theorem sc_is_integer : FnScope ["value"] ["value"] (defScope s_is_integer) := ⟨rfl, rfl, rfl, by decide +kernel, rfl, by decide +kernel, by decide +kernel⟩
theorem g_is_integer : ∀ x ∈ (["isinstance", "int", "bool"] : List Str), (defScope s_is_integer).names.lookup x = some .globalImplicit := by decide +kernel
theorem ok_is_integer {f : Addr} {fd : FuncData} (F : Fun K "is_integer" "is_integer" s_is_integer f fd) (B : Bl mg) : FnOk P w K mg base CX0 1 f fd ["value"] (spB intB) := by
  refine F.ok sc_is_integer (fun vs H Q E h => ?_) (fun cdv A outer s H vs Q E hr h => ?_)
  · obtain ⟨v, d, rfl, _⟩ := h
    rfl
  · obtain ⟨v, d, rfl, hd, q⟩ := h
    refine ⟨_, pss_one (ps_ret (pe_and (pe_callB call_isi (g_is_integer _ (.head _)) B.isinstance (by decide +kernel) (pa_cons (pv 0) (pa_cons (pe_bltn (v := .ty "int") (g_is_integer _ (.tail _ (.head _))) B.int (by decide +kernel) rfl) pa_nil))) (pe_one (pe_not (pe_callB call_isi (g_is_integer _ (.head _)) B.isinstance (by decide +kernel) (pa_cons (pv 0) (pa_cons (pe_bltn (v := .ty "bool") (g_is_integer _ (.tail _ (.tail _ (.head _)))) B.bool (by decide +kernel) rfl) pa_nil))))))), ?_⟩
    refine q_isi rfl hd (by decide) ⟨_, rfl, ?_⟩
    rw [ty_int]
    cases d with
    | int i =>
      refine iteT (q_isi rfl hd (by decide) ⟨_, rfl, ?_⟩)
      rw [ty_bool]
      exact q
    | bool b =>
      refine iteT (q_isi rfl hd (by decide) ⟨_, rfl, ?_⟩)
      rw [ty_bool]
      exact q
    | _ => exact iteF q
theorem sc_is_number : FnScope ["value"] ["value"] (defScope s_is_number) := ⟨rfl, rfl, rfl, by decide +kernel, rfl, by decide +kernel, by decide +kernel⟩
theorem g_is_number : ∀ x ∈ (["is_integer"] : List Str), (defScope s_is_number).names.lookup x = some .globalImplicit := by decide +kernel
theorem ok_is_number {f : Addr} {fd : FuncData} (F : Fun K "is_number" "is_number" s_is_number f fd) (D : CallO P w K mg base CX0 1 "is_integer" ["value"] (spB intB)) : FnOk P w K mg base CX0 2 f fd ["value"] (spB natB) := by
  refine F.ok sc_is_number (fun vs H Q E h => ?_) (fun cdv A outer s H vs Q E hr h => ?_)
  · obtain ⟨v, d, rfl, _⟩ := h
    rfl
  · obtain ⟨v, d, rfl, hd, q⟩ := h
    refine ⟨_, pss_one (ps_ret (pe_and (pe_doO D hr (g_is_number _ (.head _)) pass0 (pa_cons (pv 0) pa_nil)) (pe_one (pe_cmpR op_ge (pv 0) pe_int (nomark _))))), ?_⟩
    refine ⟨_, rfl, v, d, rfl, hd, _, rfl, ?_⟩
    cases d with
    | int i =>
      cases hd
      exact iteT ⟨_, rfl, _, _, rfl, rfl, q⟩
    | _ => exact iteF q
theorem sc_is_places : FnScope ["value"] ["value"] (defScope s_is_places) := ⟨rfl, rfl, rfl, by decide +kernel, rfl, by decide +kernel, by decide +kernel⟩
theorem g_is_places : ∀ x ∈ (["is_number", "len", "_TIMES"] : List Str), (defScope s_is_places).names.lookup x = some .globalImplicit := by decide +kernel
theorem ok_is_places {f TA : Addr} {fd : FuncData} (F : Fun K "is_places" "is_places" s_is_places f fd) (B : Bl mg) (T : Tm K mg TA) (D : CallO P w K mg base CX0 2 "is_number" ["value"] (spB natB)) : FnOk P w K mg base CX0 3 f fd ["value"] (spB plB) := by
  refine F.ok sc_is_places (fun vs H Q E h => ?_) (fun cdv A outer s H vs Q E hr h => ?_)
  · obtain ⟨v, d, rfl, _⟩ := h
    rfl
  · obtain ⟨v, d, rfl, hd, q⟩ := h
    refine ⟨_, pss_one (ps_ret (pe_and (pe_doO D hr (g_is_places _ (.head _)) pass0 (pa_cons (pv 0) pa_nil)) (pe_one (pe_cmpR op_lt (pv 0) (pe_callB call_len (g_is_places _ (.tail _ (.head _))) B.len (by decide +kernel) (pa_cons (pe_glob (v := .ref TA) (g_is_places _ (.tail _ (.tail _ (.head _)))) T.gm rfl) pa_nil)) (nomark _))))), ?_⟩
    refine ⟨_, rfl, v, d, rfl, hd, _, rfl, ?_⟩
    cases e : natB d with
    | true =>
      obtain ⟨i, rfl, h0⟩ := nat_int e
      cases hd
      refine iteT ⟨_, rfl, _, 3, rfl, .inr ⟨_, T.sq _, rfl⟩, _, _, rfl, rfl, ?_⟩
      have z : plB (.int i) = decide (i < ((3 : Nat) : Int)) := by
        show (decide (0 ≤ i) && decide (i < 3)) = _
        rw [decide_eq_true h0] <;> rfl
      rw [z] at q
      exact q
    | false =>
      have z : plB d = false := by
        cases d with
        | int i =>
          show (decide (0 ≤ i) && decide (i < 3)) = _
          have e : decide (0 ≤ i) = false := e
          rw [e] <;> rfl
        | _ => rfl
      rw [z] at q
      exact iteF q
theorem sc_need_places : FnScope ["places"] ["places"] (defScope s_need_places) := ⟨rfl, rfl, rfl, by decide +kernel, rfl, by decide +kernel, by decide +kernel⟩
theorem g_need_places : ∀ x ∈ (["is_places", "InvalidPlaces"] : List Str), (defScope s_need_places).names.lookup x = some .globalImplicit := by decide +kernel
/-- a check -/
def spNeed (C : Addr) (f : PyData → Bool) : Sp := fun vs H Q E => ∃ (v : V) (d : PyData), vs = [v] ∧ Dv H v d ∧ (f d = true → Q .non H) ∧ (f d = false → up C v H E)
theorem ok_need_places {f C : Addr} {fd : FuncData} (F : Fun K "_need_places" "_need_places" s_need_places f fd) (RS : Rs K mg "InvalidPlaces" C)
    (D : CallO P w K mg base CX0 3 "is_places" ["value"] (spB plB)) : FnOk P w K mg base (L2.CX P w) 4 f fd ["places"] (spNeed C plB) := by
  refine F.okX sc_need_places (fun vs H Q E h => ?_) (fun cdv A outer s H vs Q E hr h => ?_)
  · obtain ⟨v, d, rfl, _⟩ := h
    rfl
  · obtain ⟨v, d, rfl, hd, q1, q2⟩ := h
    have tk := takes_of (X := cxOf (L2.CX P w) P w K mg base ["places"] "_need_places" (defScope s_need_places) f cdv A outer s H E) (E := E) rfl rfl rfl rfl
    refine ⟨_, pss_one (ps_if (pt_not (pt_val (pe_doO D hr (g_need_places _ (.head _)) pass0 (pa_cons (pv 0) pa_nil))))
      (pss_one (ps_raise rfl tk (pmk_newX RS.nw RS.ex RS.ty hr (g_need_places _ (.tail _ (.head _))) (pv 0)))) pss_nil), ?_⟩
    refine ⟨_, rfl, v, d, rfl, hd, _, rfl, ?_⟩
    cases e : plB d with
    | true => exact iteF (q1 e)
    | false => exact iteT ⟨_, rfl, fun dd hdd => q2 e dd hdd⟩
theorem sc_need_number : FnScope ["number"] ["number"] (defScope s_need_number) := ⟨rfl, rfl, rfl, by decide +kernel, rfl, by decide +kernel, by decide +kernel⟩
theorem g_need_number : ∀ x ∈ (["is_number", "InvalidNumber"] : List Str), (defScope s_need_number).names.lookup x = some .globalImplicit := by decide +kernel
theorem ok_need_number {f C : Addr} {fd : FuncData} (F : Fun K "_need_number" "_need_number" s_need_number f fd) (RS : Rs K mg "InvalidNumber" C)
    (D : CallO P w K mg base CX0 2 "is_number" ["value"] (spB natB)) : FnOk P w K mg base (L2.CX P w) 3 f fd ["number"] (spNeed C natB) := by
  refine F.okX sc_need_number (fun vs H Q E h => ?_) (fun cdv A outer s H vs Q E hr h => ?_)
  · obtain ⟨v, d, rfl, _⟩ := h
    rfl
  · obtain ⟨v, d, rfl, hd, q1, q2⟩ := h
    have tk := takes_of (X := cxOf (L2.CX P w) P w K mg base ["number"] "_need_number" (defScope s_need_number) f cdv A outer s H E) (E := E) rfl rfl rfl rfl
    refine ⟨_, pss_one (ps_if (pt_not (pt_val (pe_doO D hr (g_need_number _ (.head _)) pass0 (pa_cons (pv 0) pa_nil))))
      (pss_one (ps_raise rfl tk (pmk_newX RS.nw RS.ex RS.ty hr (g_need_number _ (.tail _ (.head _))) (pv 0)))) pss_nil), ?_⟩
    refine ⟨_, rfl, v, d, rfl, hd, _, rfl, ?_⟩
    cases e : natB d with
    | true => exact iteF (q1 e)
    | false => exact iteT ⟨_, rfl, fun dd hdd => q2 e dd hdd⟩
theorem sc_is_stretch : FnScope ["value", "low", "high"] ["value"] (defScope s_is_stretch) := ⟨rfl, rfl, rfl, by decide +kernel, rfl, by decide +kernel, by decide +kernel⟩
theorem g_is_stretch : ∀ x ∈ (["isinstance", "tuple", "len", "is_integer", "MOST_NUMBER"] : List Str), (defScope s_is_stretch).names.lookup x = some .globalImplicit := by decide +kernel
theorem two_of {α : Type} : ∀ {l : List α}, l.length = 2 → ∃ a b, l = [a, b]
  | [a, b], _ => ⟨a, b, rfl⟩
  | [], h | [_], h | _ :: _ :: _ :: _, h => by simp at h
/-- data that is no tuple of two is no stretch -/
theorem span_no {d : PyData} (h : ∀ a b, d ≠ .tuple [a, b]) : spanB d = false := by
  unfold spanB
  split
  · rename_i a b
    exact (h _ _ rfl).elim
  · rfl
theorem span_two (x y : PyData) : spanB (.tuple [x, y]) = (intB x && (intB y && (match x, y with
  | .int a, .int b => decide (0 ≤ a) && (decide (a ≤ b) && decide (b ≤ 4000))
  | _, _ => false))) := by
  cases x <;> cases y <;> rfl
theorem ok_is_stretch {f : Addr} {fd : FuncData} (F : Fun K "is_stretch" "is_stretch" s_is_stretch f fd) (B : Bl mg) (h1 : mg "tuple" = none) (hn : ∃ t, mg "MOST_NUMBER" = some (.int 4000 t))
    (D : CallO P w K mg base CX0 1 "is_integer" ["value"] (spB intB)) : FnOk P w K mg base CX0 2 f fd ["value"] (spB spanB) := by
  refine F.ok sc_is_stretch (fun vs H Q E h => ?_) (fun cdv A outer s H vs Q E hr h => ?_)
  · obtain ⟨v, d, rfl, _⟩ := h
    rfl
  · obtain ⟨v, d, rfl, hd, q⟩ := h
    refine ⟨_, pss_cons (ps_if (PW.pt (pw_or (pt_not (pt_val (pe_callB call_isi (g_is_stretch _ (.head _)) B.isinstance (by decide +kernel) (pa_cons (pv 0) (pa_cons (pe_bltn (v := .ty "tuple") (g_is_stretch _ (.tail _ (.head _))) h1 (by decide +kernel) rfl) pa_nil)))))
        (pw_or1 (pt_cmpR op_ne (pe_callB call_len (g_is_stretch _ (.tail _ (.tail _ (.head _)))) B.len (by decide +kernel) (pa_cons (pv 0) pa_nil)) pe_int (nomark _))))) (pss_one (ps_ret pe_bl)) pss_nil)
      (pss_cons (ps_asg (pv 0) (pg_tup (by rfl) (pgs_cons (pg_name (i := 1) sc_is_stretch.nd rfl (.inl rfl)) (pgs_cons (pg_name (i := 2) sc_is_stretch.nd rfl (.inl rfl)) pgs_nil))))
      (pss_one (ps_ret (pe_and (pe_doO D hr (g_is_stretch _ (.tail _ (.tail _ (.tail _ (.head _))))) pass0 (pa_cons (pv 1) pa_nil)) (pe_and (pe_doO D hr (g_is_stretch _ (.tail _ (.tail _ (.tail _ (.head _))))) pass0 (pa_cons (pv 2) pa_nil))
        (pe_one (pe_chain3 op_le op_le op_le pe_int (pv 1) (pv 2) (pe_num (x := "MOST_NUMBER") hn (g_is_stretch _ (.tail _ (.tail _ (.tail _ (.tail _ (.head _)))))))))))))), ?_⟩
    refine q_isi rfl hd (by decide) ⟨_, rfl, ?_⟩
    rw [ty_tuple]
    have no : (∀ a b, d ≠ .tuple [a, b]) → Q (.bl false) H := fun h => by
      have e := span_no h
      rw [e] at q
      exact q
    cases d with
    | tuple ds =>
      refine iteF ?_
      obtain ⟨a, xs, rfl, ha, hx⟩ := hd.isT
      have hl := hx.len
      refine ⟨_, rfl, _, xs.length, rfl, .inr ⟨xs, .inl ha, rfl⟩, rfl, _, rfl, ?_⟩
      refine ite2 (fun c => ?_) (fun c => ?_)
      · refine no fun a b z => ?_
        cases z
        rw [hl] at c
        have c : (!decide (V.int ((2 : Nat) : Int) = V.int 2)) = true := c
        exact absurd c (by decide)
      · have h2 : xs.length = 2 := by
          by_cases z : xs.length = 2
          · exact z
          · refine absurd ?_ c
            show (!decide (V.int (xs.length : Int) = V.int 2)) = true
            rw [decide_eq_false (fun e => z (by have := V.int.inj e; omega))] <;> rfl
        obtain ⟨d1, d2, rfl⟩ := two_of (hl.symm.trans h2)
        cases hx with
        | @cons x1 _ _ _ e1 er =>
        cases er with
        | @cons x2 _ _ _ e2 er2 =>
        cases er2
        refine ⟨_, rfl, a, _, rfl, .inl ha, rfl, _, _, rfl, _, _, rfl, rfl, ?_⟩
        rw [span_two] at q
        refine ⟨_, rfl, x1, d1, rfl, e1, _, rfl, ?_⟩
        refine ite2 (fun c1 => ?_) (fun c1 => ?_)
        · rw [c1] at q
          refine ⟨_, rfl, x2, d2, rfl, e2, _, rfl, ?_⟩
          refine ite2 (fun c2 => ?_) (fun c2 => ?_)
          · rw [c2] at q
            cases d1 with
            | int i =>
              cases d2 with
              | int j =>
                cases e1
                cases e2
                have q : Q (.bl (decide (0 ≤ i) && (decide (i ≤ j) && decide (j ≤ 4000)))) H := q
                refine ⟨_, rfl, _, _, rfl, rfl, _, rfl, ?_⟩
                refine ite2 (fun c3 => ?_) (fun c3 => ?_)
                · refine ⟨_, rfl, _, _, rfl, rfl, _, rfl, ?_⟩
                  refine ite2 (fun c4 => ?_) (fun c4 => ?_)
                  · refine ⟨_, _, rfl, rfl, ?_⟩
                    rw [c3, c4] at q
                    exact q
                  · have c4 := Bool.eq_false_iff.mpr c4
                    rw [c3, c4] at q
                    exact q
                · have c3 := Bool.eq_false_iff.mpr c3
                  rw [c3] at q
                  exact q
              | _ => exact absurd (show false = true from c2) (by decide)
            | _ => exact absurd (show false = true from c1) (by decide)
          · have c2 := Bool.eq_false_iff.mpr c2
            rw [c2] at q
            exact q
        · have c1 := Bool.eq_false_iff.mpr c1
          rw [c1] at q
          exact q
    | _ => exact iteT (no fun a b z => nomatch z)

theorem sc_is_scale : FnScope ["value"] ["value"] (defScope s_is_scale) := ⟨rfl, rfl, rfl, by decide +kernel, rfl, by decide +kernel, by decide +kernel⟩
theorem g_is_scale : ∀ x ∈ (["is_stretch", "MOST_SCORE"] : List Str), (defScope s_is_scale).names.lookup x = some .globalImplicit := by decide +kernel
theorem ok_is_scale {f : Addr} {fd : FuncData} (F : Fun K "is_scale" "is_scale" s_is_scale f fd) (hn : ∃ t, mg "MOST_SCORE" = some (.int 6 t)) (D : CallO P w K mg base CX0 2 "is_stretch" ["value"] (spB spanB)) : FnOk P w K mg base CX0 3 f fd ["value"] (spB scB) := by
  refine F.ok sc_is_scale (fun vs H Q E h => ?_) (fun cdv A outer s H vs Q E hr h => ?_)
  · obtain ⟨v, d, rfl, _⟩ := h
    rfl
  · obtain ⟨v, d, rfl, hd, q⟩ := h
    refine ⟨_, pss_one (ps_ret (pe_and (pe_doO D hr (g_is_scale _ (.head _)) pass0 (pa_cons (pv 0) pa_nil)) (pe_one (pe_cmpR op_le (pe_ix ix_tup (pv 0) pe_int (fun _ _ => rfl)) (pe_num (x := "MOST_SCORE") hn (g_is_scale _ (.tail _ (.head _)))) (nomark _))))), ?_⟩
    refine ⟨_, rfl, v, d, rfl, hd, _, rfl, ?_⟩
    cases e : spanB d with
    | true =>
      obtain ⟨a, b, rfl, h0, h1, h2⟩ := span_ends e
      obtain ⟨t, xs, rfl, ht, hx⟩ := hd.isT
      cases hx with
      | cons e1 er =>
      cases er with
      | cons e2 er2 =>
      cases er2
      cases e1
      cases e2
      refine iteT ⟨_, rfl, t, _, 1, _, rfl, rfl, .inl ht, rfl, _, _, rfl, rfl, ?_⟩
      have z : scB (.tuple [.int a, .int b]) = decide (b ≤ 6) := by
        show (decide (0 ≤ a) && (decide (a ≤ b) && decide (b ≤ 6))) = _
        rw [decide_eq_true h0, decide_eq_true h1] <;> rfl
      rw [z] at q
      exact q
    | false =>
      rw [sc_no e] at q
      exact iteF q
theorem sc_need_scale : FnScope ["scale"] ["scale"] (defScope s_need_scale) := ⟨rfl, rfl, rfl, by decide +kernel, rfl, by decide +kernel, by decide +kernel⟩
theorem g_need_scale : ∀ x ∈ (["is_scale", "InvalidScale"] : List Str), (defScope s_need_scale).names.lookup x = some .globalImplicit := by decide +kernel
theorem ok_need_scale {f C : Addr} {fd : FuncData} (F : Fun K "need_scale" "need_scale" s_need_scale f fd) (RS : Rs K mg "InvalidScale" C)
    (D : CallO P w K mg base CX0 3 "is_scale" ["value"] (spB scB)) : FnOk P w K mg base (L2.CX P w) 4 f fd ["scale"] (spNeed C scB) := by
  refine F.okX sc_need_scale (fun vs H Q E h => ?_) (fun cdv A outer s H vs Q E hr h => ?_)
  · obtain ⟨v, d, rfl, _⟩ := h
    rfl
  · obtain ⟨v, d, rfl, hd, q1, q2⟩ := h
    have tk := takes_of (X := cxOf (L2.CX P w) P w K mg base ["scale"] "need_scale" (defScope s_need_scale) f cdv A outer s H E) (E := E) rfl rfl rfl rfl
    refine ⟨_, pss_one (ps_if (pt_not (pt_val (pe_doO D hr (g_need_scale _ (.head _)) pass0 (pa_cons (pv 0) pa_nil))))
      (pss_one (ps_raise rfl tk (pmk_newX RS.nw RS.ex RS.ty hr (g_need_scale _ (.tail _ (.head _))) (pv 0)))) pss_nil), ?_⟩
    refine ⟨_, rfl, v, d, rfl, hd, _, rfl, ?_⟩
    cases e : scB d with
    | true => exact iteF (q1 e)
    | false => exact iteT ⟨_, rfl, fun dd hdd => q2 e dd hdd⟩
theorem sc_need_people : FnScope ["people", "most"] ["people", "most"] (defScope s_need_people) := ⟨rfl, rfl, rfl, by decide +kernel, rfl, by decide +kernel, by decide +kernel⟩
theorem g_need_people : ∀ x ∈ (["is_integer", "InvalidPeople"] : List Str), (defScope s_need_people).names.lookup x = some .globalImplicit := by decide +kernel
/-- as many people as may be -/
def peB : Option Int → PyData → Bool
  | none, d => posB d
  | some m, .int i => decide (1 ≤ i) && decide (i ≤ m)
  | some _, _ => false
def moV : Option Int → V
  | none => .non
  | some m => .int m
def spPeople (C : Addr) : Sp := fun vs H Q E => ∃ (v : V) (d : PyData) (mo : Option Int), vs = [v, moV mo] ∧ Dv H v d ∧ (peB mo d = true → Q .non H) ∧ (peB mo d = false → up C v H E)
theorem ok_need_people {f C : Addr} {fd : FuncData} (F : Fun K "need_people" "need_people" s_need_people f fd) (RS : Rs K mg "InvalidPeople" C)
    (D : CallO P w K mg base CX0 1 "is_integer" ["value"] (spB intB)) : FnOk P w K mg base (L2.CX P w) 2 f fd ["people", "most"] (spPeople C) := by
  refine F.okX sc_need_people (fun vs H Q E h => ?_) (fun cdv A outer s H vs Q E hr h => ?_)
  · obtain ⟨v, d, mo, rfl, _⟩ := h
    rfl
  · obtain ⟨v, d, mo, rfl, hd, q1, q2⟩ := h
    have tk := takes_of (X := cxOf (L2.CX P w) P w K mg base ["people", "most"] "need_people" (defScope s_need_people) f cdv A outer s H E) (E := E) rfl rfl rfl rfl
    refine ⟨_, pss_one (ps_if (PW.pt (pw_or (pt_not (pt_val (pe_doO D hr (g_need_people _ (.head _)) pass0 (pa_cons (pv 0) pa_nil)))) (pw_or (pt_cmpR op_lt (pv 0) pe_int (nomark _))
      (pw_or1 (PW.pt (pw_and (pt_cmpR op_notN (pv 1) pe_non (nomark _)) (pw_and1 (pt_cmpR op_gt (pv 0) (pv 1) (nomark _)))))))))
      (pss_one (ps_raise rfl tk (pmk_newX RS.nw RS.ex RS.ty hr (g_need_people _ (.tail _ (.head _))) (pv 0)))) pss_nil), ?_⟩
    refine ⟨_, rfl, v, d, rfl, hd, _, rfl, ?_⟩
    cases d with
    | int i =>
      cases hd
      refine iteF ⟨_, rfl, _, _, rfl, rfl, _, rfl, ?_⟩
      by_cases c : i < 1
      · rw [decide_eq_true c]
        refine iteT ⟨_, rfl, fun dd hdd => q2 ?_ dd hdd⟩
        cases mo with
        | none => exact decide_eq_false (by omega)
        | some m =>
          show (decide (1 ≤ i) && decide (i ≤ m)) = false
          rw [decide_eq_false (by omega)] <;> rfl
      · rw [decide_eq_false c]
        cases mo with
        | none =>
          refine iteF ⟨_, rfl, rfl, _, rfl, ?_⟩
          exact iteF (q1 (decide_eq_true (by omega)))
        | some m =>
          refine iteF ⟨_, rfl, rfl, _, rfl, ?_⟩
          refine iteT ⟨_, rfl, _, rfl, _, _, rfl, rfl, _, rfl, ?_⟩
          by_cases c2 : i > m
          · rw [decide_eq_true c2]
            refine iteT ⟨_, rfl, fun dd hdd => q2 ?_ dd hdd⟩
            show (decide (1 ≤ i) && decide (i ≤ m)) = false
            rw [decide_eq_true (show 1 ≤ i by omega), decide_eq_false (show ¬ i ≤ m by omega)] <;> rfl
          · rw [decide_eq_false c2]
            refine iteF (q1 ?_)
            show (decide (1 ≤ i) && decide (i ≤ m)) = true
            rw [decide_eq_true (show 1 ≤ i by omega), decide_eq_true (show i ≤ m by omega)] <;> rfl
    | _ => exact iteT ⟨_, rfl, fun dd hdd => q2 (by cases mo <;> rfl) dd hdd⟩
end
end K41
namespace K41
open PySem PySem.Spec PyProof.Rows L2 Tc Evl
theorem bd_mul {i j : Int} {a b : Nat} (ha : i.natAbs < 2 ^ a) (hb : j.natAbs < 2 ^ b) : (i * j).natAbs < 2 ^ (a + b) := wide_lt ha hb
theorem bd_two {i : Int} {a b : Nat} (ha : i.natAbs < 2 ^ a) (h : a + 1 = b) : (2 * i).natAbs < 2 ^ b := by
  subst h
  have := Nat.pow_succ (n := 2) (m := a)
  omega
theorem bd_mono {i : Int} {a b : Nat} (ha : i.natAbs < 2 ^ a) (h : a ≤ b) : i.natAbs < 2 ^ b := Nat.lt_of_lt_of_le ha (Nat.pow_le_pow_right (by decide) h)
section
variable {P : Program} {w : World} {K : PySem.W.Frag} {mg : Str → Option Value} {base : Heap}
theorem sc_nearest : FnScope ["number", "divisor"] ["number", "divisor"] (defScope s_nearest) := ⟨rfl, rfl, rfl, by decide +kernel, rfl, by decide +kernel, by decide +kernel⟩
def spNear : Sp := fun vs H Q _ => ∃ a b : Int, vs = [.int a, .int b] ∧ 0 < b ∧ b.natAbs < 2 ^ 599 ∧ Q (.int (nearI a b)) H
theorem ok_nearest {f : Addr} {fd : FuncData} (F : Fun K "nearest" "nearest" s_nearest f fd) : FnOk P w K mg base CX0 1 f fd ["number", "divisor"] spNear := by
  refine F.ok sc_nearest (fun vs H Q E h => ?_) (fun cdv A outer s H vs Q E hr h => ?_)
  · obtain ⟨a, b, rfl, _⟩ := h
    rfl
  · obtain ⟨a, b, rfl, h0, hb, q⟩ := h
    refine ⟨_, pss_one (ps_ret (pe_op op_fdivW (pe_op op_add (pe_op op_mul pe_int (pv 0)) (pv 1)) (pe_op op_mul pe_int (pv 1)))), ?_⟩
    exact ⟨_, rfl, _, _, rfl, rfl, .inl ⟨by decide, by decide⟩, _, rfl, _, _, rfl, rfl, _, rfl, _, _, rfl, rfl, .inl ⟨by decide, by decide⟩, _, _, rfl, rfl, div_ok (by omega) (bd_two hb rfl), q⟩
theorem sc_mean_of : FnScope ["people", "total", "places"] ["people", "total", "places"] (defScope s_mean_of) := ⟨rfl, rfl, rfl, by decide +kernel, rfl, by decide +kernel, by decide +kernel⟩
theorem g_mean_of : ∀ x ∈ (["nearest", "_TIMES"] : List Str), (defScope s_mean_of).names.lookup x = some .globalImplicit := by decide +kernel
def spMean : Sp := fun vs H Q _ => ∃ n t p : Int, vs = [.int n, .int t, .int p] ∧ 0 < n ∧ n.natAbs < 2 ^ 250 ∧ 0 ≤ p ∧ p < 3 ∧ Q (.int (meanI n t p)) H
theorem ok_mean_of {f TA : Addr} {fd : FuncData} (F : Fun K "mean_of" "mean_of" s_mean_of f fd) (T : Tm K mg TA) (D : CallO P w K mg base CX0 1 "nearest" ["number", "divisor"] spNear) : FnOk P w K mg base CX0 2 f fd ["people", "total", "places"] spMean := by
  refine F.ok sc_mean_of (fun vs H Q E h => ?_) (fun cdv A outer s H vs Q E hr h => ?_)
  · obtain ⟨n, t, p, rfl, _⟩ := h
    rfl
  · obtain ⟨n, t, p, rfl, h0, hb, p0, p1, q⟩ := h
    refine ⟨_, pss_one (ps_ret (pe_doO D hr (g_mean_of _ (.head _)) pass0 (pa_cons (pe_op op_mul (pe_ix ix_tup (pe_glob (v := .ref TA) (g_mean_of _ (.tail _ (.head _))) T.gm rfl) (pv 2) (fun _ _ => rfl)) (pv 1)) (pa_cons (pv 0) pa_nil)))), ?_⟩
    have tl := times_le p
    exact ⟨_, rfl, TA, _, _, _, rfl, rfl, T.sq _, times_at p0 p1, _, rfl, _, _, rfl, rfl, .inl ⟨by omega, by omega⟩, _, rfl, _, _, rfl, h0, bd_mono hb (by decide), q⟩
theorem sc_told_mean : FnScope ["people", "total", "places"] ["people", "total", "places"] (defScope s_told_mean) := ⟨rfl, rfl, rfl, by decide +kernel, rfl, by decide +kernel, by decide +kernel⟩
theorem g_told_mean : ∀ x ∈ (["need_people", "_need_number", "_need_places", "mean_of"] : List Str), (defScope s_told_mean).names.lookup x = some .globalImplicit := by decide +kernel
def spTM (CP CN CL : Addr) : Sp := fun vs H Q E => ∃ (v1 v2 v3 : V) (d1 d2 d3 : PyData), vs = [v1, v2, v3] ∧ (Dv H v1 d1 ∧ Dv H v2 d2 ∧ Dv H v3 d3) ∧ Bd d1 ∧ (posB d1 = false → up CP v1 H E) ∧ (posB d1 = true → natB d2 = false → up CN v2 H E) ∧ (posB d1 = true → natB d2 = true → plB d3 = false → up CL v3 H E) ∧
  ∀ n t p : Int, d1 = .int n → d2 = .int t → d3 = .int p → 1 ≤ n → 0 ≤ t → 0 ≤ p → p < 3 → Q (.int (meanI n t p)) H
theorem ok_told_mean {f CP CN CL : Addr} {fd : FuncData} (F : Fun K "told_mean" "told_mean" s_told_mean f fd) (DP : CallO P w K mg base (L2.CX P w) 2 "need_people" ["people", "most"] (spPeople CP)) (DN : CallO P w K mg base (L2.CX P w) 3 "_need_number" ["number"] (spNeed CN natB))
    (DL : CallO P w K mg base (L2.CX P w) 4 "_need_places" ["places"] (spNeed CL plB)) (DM : CallO P w K mg base CX0 2 "mean_of" ["people", "total", "places"] spMean) : FnOk P w K mg base (L2.CX P w) 5 f fd ["people", "total", "places"] (spTM CP CN CL) := by
  refine F.okX sc_told_mean (fun vs H Q E h => ?_) (fun cdv A outer s H vs Q E hr h => ?_)
  · obtain ⟨v1, v2, v3, d1, d2, d3, rfl, _⟩ := h
    rfl
  · obtain ⟨v1, v2, v3, d1, d2, d3, rfl, ⟨h1, h2, h3⟩, b1, q1, q2, q3, q⟩ := h
    have tk := takes_of (X := cxOf (L2.CX P w) P w K mg base ["people", "total", "places"] "told_mean" (defScope s_told_mean) f cdv A outer s H E) (E := E) rfl rfl rfl rfl
    refine ⟨_, pss_cons (ps_expr (pe_doO DP (hr.mono (by decide)) (g_told_mean _ (.head _)) (passes_call tk fun _ _ _ _ h => h) (pa_cons (pv 0) (pa_cons pe_non pa_nil))))
      (pss_cons (ps_expr (pe_doO DN (hr.mono (by decide)) (g_told_mean _ (.tail _ (.head _))) (passes_call tk fun _ _ _ _ h => h) (pa_cons (pv 1) pa_nil)))
      (pss_cons (ps_expr (pe_doO DL (hr.mono (by decide)) (g_told_mean _ (.tail _ (.tail _ (.head _)))) (passes_call tk fun _ _ _ _ h => h) (pa_cons (pv 2) pa_nil)))
      (pss_one (ps_ret (pe_doO DM (hr.mono (by decide)) (g_told_mean _ (.tail _ (.tail _ (.tail _ (.head _))))) pass0 (pa_cons (pv 0) (pa_cons (pv 1) (pa_cons (pv 2) pa_nil)))))))), ?_⟩
    refine ⟨_, rfl, v1, d1, none, rfl, h1, fun e1 => ?_, q1⟩
    refine ⟨_, rfl, v2, d2, rfl, h2, fun e2 => ?_, q2 e1⟩
    refine ⟨_, rfl, v3, d3, rfl, h3, fun e3 => ?_, q3 e1 e2⟩
    obtain ⟨n, rfl, n1⟩ := pos_int e1
    obtain ⟨t, rfl, t0⟩ := nat_int e2
    obtain ⟨p, rfl, p0, p1⟩ := pl_int e3
    cases h1
    cases h2
    cases h3
    exact ⟨_, rfl, _, rfl, _, rfl, n, t, p, rfl, by omega, b1 n rfl, p0, p1, q n t p rfl rfl rfl n1 t0 p0 p1⟩
theorem sc_totals_with : FnScope ["people", "scale", "mean", "places", "times", "least", "behind"] ["people", "scale", "mean", "places"] (defScope s_totals_with) := ⟨rfl, rfl, rfl, by decide +kernel, rfl, by decide +kernel, by decide +kernel⟩
theorem g_totals_with : ∀ x ∈ (["_TIMES", "max", "min"] : List Str), (defScope s_totals_with).names.lookup x = some .globalImplicit := by decide +kernel
def maxI (i j : Int) : Int := if j > i then j else i
def minI (i j : Int) : Int := if j < i then j else i
def loT (n m p : Int) : Int := ((2 * m - 1) * n + 2 * timesI p - 1) / (2 * timesI p)
def beT (n m p : Int) : Int := ((2 * m + 1) * n + 2 * timesI p - 1) / (2 * timesI p)
def spTW : Sp := fun vs H Q _ => ∃ (n m p lo hi : Int) (v : V), vs = [.int n, v, .int m, .int p] ∧ Dv H v (.tuple [.int lo, .int hi]) ∧ (0 ≤ n ∧ n ≤ 3000) ∧ (0 ≤ m ∧ m ≤ 1000) ∧ 0 ≤ p ∧ p < 3 ∧
  ∀ q, H q = none → Q (.ref q) (upd H q (.tup [.int (maxI (loT n m p) (n * lo)), .int (minI (beT n m p) (n * hi + 1))]))
theorem ok_totals_with {f TA : Addr} {fd : FuncData} (F : Fun K "_totals_with" "_totals_with" s_totals_with f fd) (B : Bl mg) (T : Tm K mg TA) : FnOk P w K mg base CX0 1 f fd ["people", "scale", "mean", "places"] spTW := by
  refine F.ok sc_totals_with (fun vs H Q E h => ?_) (fun cdv A outer s H vs Q E hr h => ?_)
  · obtain ⟨n, m, p, lo, hi, v, rfl, _⟩ := h
    rfl
  · obtain ⟨n, m, p, lo, hi, v, rfl, hd, ⟨n0, n1⟩, ⟨m0, m1⟩, p0, p1, q⟩ := h
    refine ⟨_, pss_cons (ps_set (i := 4) sc_totals_with.nd rfl (.inl rfl) (pe_op op_mul pe_int (pe_ix ix_tup (pe_glob (v := .ref TA) (g_totals_with _ (.head _)) T.gm rfl) (pv 3) (fun _ _ => rfl))))
      (pss_cons (ps_set (i := 5) sc_totals_with.nd rfl (.inl rfl) (pe_op op_fdiv (pe_op op_sub (pe_op op_add (pe_op op_mul (pe_op op_sub (pe_op op_mul pe_int (pv 2)) pe_int) (pv 0)) (pv 4)) pe_int) (pv 4)))
      (pss_cons (ps_set (i := 6) sc_totals_with.nd rfl (.inl rfl) (pe_op op_fdiv (pe_op op_sub (pe_op op_add (pe_op op_mul (pe_op op_add (pe_op op_mul pe_int (pv 2)) pe_int) (pv 0)) (pv 4)) pe_int) (pv 4)))
      (pss_one (ps_ret (pe_tup (pa_cons (pe_callB (call_max2 rfl) (g_totals_with _ (.tail _ (.head _))) B.max (by decide +kernel) (pa_cons (pv 5) (pa_cons (pe_op op_mul (pv 0) (pe_ix ix_tup (pv 1) pe_int (fun _ _ => rfl))) pa_nil)))
        (pa_cons (pe_callB (call_min2 rfl) (g_totals_with _ (.tail _ (.tail _ (.head _)))) B.min (by decide +kernel) (pa_cons (pv 6) (pa_cons (pe_op op_add (pe_op op_mul (pv 0) (pe_ix ix_tup (pv 1) pe_int (fun _ _ => rfl))) pe_int) pa_nil))) pa_nil))))))), ?_⟩
    have tl := times_le p
    obtain ⟨t, xs, rfl, ht, hx⟩ := hd.isT
    cases hx with
    | cons e1 er =>
    cases er with
    | cons e2 er2 =>
    cases er2
    cases e1
    cases e2
    refine ⟨_, rfl, TA, _, _, _, rfl, rfl, T.sq _, times_at p0 p1, _, _, rfl, rfl, .inl ⟨by decide, by decide⟩, ?_⟩
    refine ⟨_, rfl, _, _, rfl, rfl, .inl ⟨by decide, by decide⟩, _, _, rfl, rfl, _, rfl, _, _, rfl, rfl, .inl ⟨by omega, by omega⟩, _, rfl, _, _, rfl, rfl, _, _, rfl, rfl, _, rfl, _, _, rfl, rfl, ⟨by omega, by omega⟩, ?_⟩
    refine ⟨_, rfl, _, _, rfl, rfl, .inl ⟨by decide, by decide⟩, _, _, rfl, rfl, _, rfl, _, _, rfl, rfl, .inl ⟨by omega, by omega⟩, _, rfl, _, _, rfl, rfl, _, _, rfl, rfl, _, rfl, _, _, rfl, rfl, ⟨by omega, by omega⟩, ?_⟩
    refine ⟨_, rfl, _, rfl, _, rfl, t, _, 0, _, rfl, rfl, .inl ht, rfl, _, _, rfl, rfl, .inl ⟨by omega, by omega⟩, _, _, rfl, ?_⟩
    refine ⟨_, rfl, _, rfl, _, rfl, t, _, 1, _, rfl, rfl, .inl ht, rfl, _, _, rfl, rfl, .inl ⟨by omega, by omega⟩, _, _, rfl, rfl, _, _, rfl, ?_⟩
    exact ⟨by show 2 ≤ sizeLine; decide, fun z hz => q z hz⟩
theorem sc_totals_for : FnScope ["people", "scale", "mean", "places", "least", "behind"] ["people", "scale", "mean", "places"] (defScope s_totals_for) := ⟨rfl, rfl, rfl, by decide +kernel, rfl, by decide +kernel, by decide +kernel⟩
theorem g_totals_for : ∀ x ∈ (["need_people", "_MOST_MEANT", "need_scale", "_need_number", "_need_places", "_totals_with", "tuple", "range"] : List Str), (defScope s_totals_for).names.lookup x = some .globalImplicit := by decide +kernel
def loA (n lo m p : Int) : Int := maxI (loT n m p) (n * lo)
def beB (n hi m p : Int) : Int := minI (beT n m p) (n * hi + 1)
theorem rg_ok {n lo hi m p : Int} (n0 : 0 ≤ n) (n1 : n ≤ 3000) (l0 : 0 ≤ lo) (l1 : lo ≤ hi) (l2 : hi ≤ 6) (m0 : 0 ≤ m) (m1 : m ≤ 1000) : (0 ≤ loA n lo m p ∧ loA n lo m p ≤ 16777216) ∧ 0 ≤ beB n hi m p ∧ beB n hi m p ≤ 18001 := by
  have tl := times_le p
  have a1 : 0 ≤ n * lo := Int.mul_nonneg n0 l0
  have a2 : n * lo ≤ 3000 * 6 := Int.mul_le_mul n1 (by omega) l0 (by decide)
  have a3 : 0 ≤ n * hi := Int.mul_nonneg n0 (by omega)
  have a4 : n * hi ≤ 3000 * 6 := Int.mul_le_mul n1 l2 (by omega) (by decide)
  have b1 : (2 * m + 1) * n ≤ 2001 * 3000 := Int.mul_le_mul (by omega) n1 n0 (by decide)
  have b0 : 0 ≤ (2 * m + 1) * n := Int.mul_nonneg (by omega) n0
  have c1 : (2 * m - 1) * n ≤ 2001 * 3000 := by
    have : (2 * m - 1) * n = (2 * m + 1) * n - 2 * n := by
      rw [Int.sub_mul, Int.add_mul]
      omega
    omega
  have d1 : 0 ≤ beT n m p := Int.ediv_nonneg (by omega) (by omega)
  have d2 : loT n m p ≤ 16777216 := by
    unfold loT
    have z : ((2 * m - 1) * n + 2 * timesI p - 1) / (2 * timesI p) < 16777217 := Int.ediv_lt_of_lt_mul (by omega) (by omega)
    omega
  unfold loA beB maxI minI
  refine ⟨⟨?_, ?_⟩, ?_, ?_⟩ <;> split <;> omega
def spTF (CP CS CN CL : Addr) : Sp := fun vs H Q E => ∃ (v1 v2 v3 v4 : V) (d1 d2 d3 d4 : PyData), vs = [v1, v2, v3, v4] ∧ (Dv H v1 d1 ∧ Dv H v2 d2 ∧ Dv H v3 d3 ∧ Dv H v4 d4) ∧ (peB (some 3000) d1 = false → up CP v1 H E) ∧ (peB (some 3000) d1 = true → scB d2 = false → up CS v2 H E) ∧
  (peB (some 3000) d1 = true → scB d2 = true → natB d3 = false → up CN v3 H E) ∧ (peB (some 3000) d1 = true → scB d2 = true → natB d3 = true → plB d4 = false → up CL v4 H E) ∧
  ∀ n lo hi m p : Int, d1 = .int n → d2 = .tuple [.int lo, .int hi] → d3 = .int m → d4 = .int p → 1 ≤ n → n ≤ 3000 → 0 ≤ lo → lo ≤ hi → hi ≤ 6 → 0 ≤ m → 0 ≤ p → p < 3 → m ≤ 1000 ∧ ∀ q H', Same H H' → H' q = some (.tup (rgV (loA n lo m p) (beB n hi m p))) → Q (.ref q) H'
theorem pe_int3 {d : PyData} (h : peB (some 3000) d = true) : ∃ n : Int, d = .int n ∧ 1 ≤ n ∧ n ≤ 3000 := by
  cases d with
  | int i =>
    obtain ⟨a, b⟩ := Bool.and_eq_true_iff.mp h
    exact ⟨i, rfl, of_decide_eq_true a, of_decide_eq_true b⟩
  | _ => cases h
theorem ok_totals_for {f CP CS CN CL : Addr} {fd : FuncData} (F : Fun K "totals_for" "totals_for" s_totals_for f fd) (B : Bl mg) (hm : ∃ t, mg "_MOST_MEANT" = some (.int 3000 t)) (DP : CallO P w K mg base (L2.CX P w) 2 "need_people" ["people", "most"] (spPeople CP)) (DS : CallO P w K mg base (L2.CX P w) 4 "need_scale" ["scale"] (spNeed CS scB)) (DN : CallO P w K mg base (L2.CX P w) 3 "_need_number" ["number"] (spNeed CN natB))
    (DL : CallO P w K mg base (L2.CX P w) 4 "_need_places" ["places"] (spNeed CL plB)) (DT : CallO P w K mg base CX0 1 "_totals_with" ["people", "scale", "mean", "places"] spTW) : FnOk P w K mg base (L2.CX P w) 5 f fd ["people", "scale", "mean", "places"] (spTF CP CS CN CL) := by
  refine F.okX sc_totals_for (fun vs H Q E h => ?_) (fun cdv A outer s H vs Q E hr h => ?_)
  · obtain ⟨v1, v2, v3, v4, d1, d2, d3, d4, rfl, _⟩ := h
    rfl
  · obtain ⟨v1, v2, v3, v4, d1, d2, d3, d4, rfl, ⟨h1, h2, h3, h4⟩, q1, q2, q3, q4, q⟩ := h
    have tk := takes_of (X := cxOf (L2.CX P w) P w K mg base ["people", "scale", "mean", "places", "least", "behind"] "totals_for" (defScope s_totals_for) f cdv A outer s H E) (E := E) rfl rfl rfl rfl
    refine ⟨_, pss_cons (ps_expr (pe_doO DP (hr.mono (by decide)) (g_totals_for _ (.head _)) (passes_call tk fun _ _ _ _ h => h) (pa_cons (pv 0) (pa_cons (pe_num (x := "_MOST_MEANT") hm (g_totals_for _ (.tail _ (.head _)))) pa_nil))))
      (pss_cons (ps_expr (pe_doO DS (hr.mono (by decide)) (g_totals_for _ (.tail _ (.tail _ (.head _)))) (passes_call tk fun _ _ _ _ h => h) (pa_cons (pv 1) pa_nil)))
      (pss_cons (ps_expr (pe_doO DN (hr.mono (by decide)) (g_totals_for _ (.tail _ (.tail _ (.tail _ (.head _))))) (passes_call tk fun _ _ _ _ h => h) (pa_cons (pv 2) pa_nil)))
      (pss_cons (ps_expr (pe_doO DL (hr.mono (by decide)) (g_totals_for _ (.tail _ (.tail _ (.tail _ (.tail _ (.head _)))))) (passes_call tk fun _ _ _ _ h => h) (pa_cons (pv 3) pa_nil)))
      (pss_cons (ps_asg (pe_doO DT (hr.mono (by decide)) (g_totals_for _ (.tail _ (.tail _ (.tail _ (.tail _ (.tail _ (.head _))))))) pass0 (pa_cons (pv 0) (pa_cons (pv 1) (pa_cons (pv 2) (pa_cons (pv 3) pa_nil))))) (pg_tup (by rfl) (pgs_cons (pg_name (i := 4) sc_totals_for.nd rfl (.inl rfl)) (pgs_cons (pg_name (i := 5) sc_totals_for.nd rfl (.inl rfl)) pgs_nil))))
      (pss_one (ps_ret (pe_tupRg rfl (g_totals_for _ (.tail _ (.tail _ (.tail _ (.tail _ (.tail _ (.tail _ (.head _)))))))) B.tuple (prg_2 (g_totals_for _ (.tail _ (.tail _ (.tail _ (.tail _ (.tail _ (.tail _ (.tail _ (.head _))))))))) B.range (pv 4) (pv 5))))))))), ?_⟩
    refine ⟨_, rfl, v1, d1, some 3000, rfl, h1, fun e1 => ?_, q1⟩
    refine ⟨_, rfl, v2, d2, rfl, h2, fun e2 => ?_, q2 e1⟩
    refine ⟨_, rfl, v3, d3, rfl, h3, fun e3 => ?_, q3 e1 e2⟩
    refine ⟨_, rfl, v4, d4, rfl, h4, fun e4 => ?_, q4 e1 e2 e3⟩
    obtain ⟨n, rfl, n1, n2⟩ := pe_int3 e1
    obtain ⟨lo, hi, rfl, l0, l1, l2⟩ := sc_ends e2
    obtain ⟨m, rfl, m0⟩ := nat_int e3
    obtain ⟨p, rfl, p0, p1⟩ := pl_int e4
    obtain ⟨m1, q⟩ := q n lo hi m p rfl rfl rfl rfl n1 n2 l0 l1 l2 m0 p0 p1
    cases h1
    cases h3
    cases h4
    have rg := rg_ok (p := p) (by omega : 0 ≤ n) n2 l0 l1 l2 m0 m1
    refine ⟨_, rfl, _, rfl, _, rfl, _, rfl, n, m, p, lo, hi, v2, rfl, h2, ⟨by omega, n2⟩, ⟨m0, m1⟩, p0, p1, fun z hz => ?_⟩
    refine ⟨z, _, rfl, .inl (.inl upd_same), rfl, _, _, rfl, _, _, rfl, rfl, ?_⟩
    refine ⟨_, rfl, _, rfl, _, _, rfl, rfl, RgOk.of_le rg.1.1 (by have := rg.2.2; unfold beB at this; omega) rg.1.2 rg.2.1, fun y hy => ?_⟩
    exact q y _ ((Same.new hz).trans (Same.new hy)) upd_same
end
end K41
namespace K41
open PySem PySem.Spec PyProof.Rows L2 Tc Evl
def whB (a b : Int) : PyData → Bool
  | .int i => decide (a ≤ i) && decide (i ≤ b)
  | _ => false
theorem wh_int {a b : Int} {d : PyData} (h : whB a b d = true) : ∃ i : Int, d = .int i ∧ a ≤ i ∧ i ≤ b := by
  cases d with
  | int i =>
    obtain ⟨x, y⟩ := Bool.and_eq_true_iff.mp h
    exact ⟨i, rfl, of_decide_eq_true x, of_decide_eq_true y⟩
  | _ => cases h
/-- the numbers of people that are found among the first k -/
def fnd (c : Int → Bool) (k : Nat) : List V := (((List.range k).map fun (i : Nat) => (1 : Int) + (i : Int)).filter c).map V.int
theorem fnd_succ (c : Int → Bool) (k : Nat) : fnd c (k + 1) = fnd c k ++ (if c (1 + (k : Int)) = true then [V.int (1 + (k : Int))] else []) := by
  unfold fnd
  rw [List.range_succ, List.map_append, List.filter_append, List.map_append]
  congr 1
  by_cases h : c (1 + (k : Int)) = true
  · rw [if_pos h]
    simp [h]
  · rw [if_neg h]
    simp [h]
theorem fnd_len (c : Int → Bool) (k : Nat) : (fnd c k).length ≤ k := by
  unfold fnd
  rw [List.length_map]
  refine Nat.le_trans (List.length_filter_le _ _) ?_
  rw [List.length_map, List.length_range]
  exact Nat.le_refl k
def Bt1 (g : Addr) (H H' : Hp) : Prop := ∀ b o, H b = some o → b ≠ g → H' b = some o
/-- data of before a list was made stay where that list alone changes -/
theorem dv_bt1 {H H1 H2 : Hp} {D : Addr} {v : V} {d : PyData} {x : Prop} (_ : x) (hD : H D = none) (b : Bt1 D H1 H2) (s : Same H H1) (h : Dv H v d) : Dv H2 v d := h.mono fun c o e => b c o (s c o e) (ne_of_none e hD)
def okP (lo hi m p : Int) : Int → Bool := fun n => decide (loA n lo m p < beB n hi m p)
section
variable {P : Program} {w : World} {K : PySem.W.Frag} {mg : Str → Option Value} {base : Heap}
theorem sc_need_most : FnScope ["most"] ["most"] (defScope s_need_most) := ⟨rfl, rfl, rfl, by decide +kernel, rfl, by decide +kernel, by decide +kernel⟩
theorem g_need_most : ∀ x ∈ (["is_integer", "_MOST_MEANT", "InvalidNumber"] : List Str), (defScope s_need_most).names.lookup x = some .globalImplicit := by decide +kernel
theorem ok_need_most {f C : Addr} {fd : FuncData} (F : Fun K "need_most" "need_most" s_need_most f fd) (RS : Rs K mg "InvalidNumber" C) (hm : ∃ t, mg "_MOST_MEANT" = some (.int 3000 t))
    (D : CallO P w K mg base CX0 1 "is_integer" ["value"] (spB intB)) : FnOk P w K mg base (L2.CX P w) 2 f fd ["most"] (spNeed C (whB 1 3000)) := by
  refine F.okX sc_need_most (fun vs H Q E h => ?_) (fun cdv A outer s H vs Q E hr h => ?_)
  · obtain ⟨v, d, rfl, _⟩ := h
    rfl
  · obtain ⟨v, d, rfl, hd, q1, q2⟩ := h
    have tk := takes_of (X := cxOf (L2.CX P w) P w K mg base ["most"] "need_most" (defScope s_need_most) f cdv A outer s H E) (E := E) rfl rfl rfl rfl
    refine ⟨_, pss_one (ps_if (PW.pt (pw_or (pt_not (pt_val (pe_doO D hr (g_need_most _ (.head _)) pass0 (pa_cons (pv 0) pa_nil)))) (pw_or1 (pt_not (pt_chain op_le op_le pe_int (pv 0) (pe_num (x := "_MOST_MEANT") hm (g_need_most _ (.tail _ (.head _)))))))))
      (pss_one (ps_raise rfl tk (pmk_newX RS.nw RS.ex RS.ty hr (g_need_most _ (.tail _ (.tail _ (.head _)))) (pv 0)))) pss_nil), ?_⟩
    refine ⟨_, rfl, v, d, rfl, hd, _, rfl, ?_⟩
    cases d with
    | int M =>
      cases hd
      refine iteF ⟨_, rfl, _, _, rfl, rfl, _, rfl, ?_⟩
      by_cases c1 : 1 ≤ M
      · rw [decide_eq_true c1]
        refine iteT ⟨_, _, rfl, rfl, _, rfl, ?_⟩
        by_cases c2 : M ≤ 3000
        · rw [decide_eq_true c2]
          refine iteF (q1 ?_)
          show (decide (1 ≤ M) && decide (M ≤ 3000)) = true
          rw [decide_eq_true c1, decide_eq_true c2] <;> rfl
        · rw [decide_eq_false c2]
          refine iteT ⟨_, rfl, fun dd hdd => q2 ?_ dd hdd⟩
          show (decide (1 ≤ M) && decide (M ≤ 3000)) = false
          rw [decide_eq_false c2, Bool.and_false]
      · rw [decide_eq_false c1]
        refine iteF ⟨_, rfl, ?_⟩
        refine iteT ⟨_, rfl, fun dd hdd => q2 ?_ dd hdd⟩
        show (decide (1 ≤ M) && decide (M ≤ 3000)) = false
        rw [decide_eq_false c1, Bool.false_and]
    | _ => exact iteT ⟨_, rfl, fun dd hdd => q2 rfl dd hdd⟩
theorem sc_people_for_mean : FnScope ["scale", "mean", "places", "most", "found", "people", "least", "behind"] ["scale", "mean", "places", "most"] (defScope s_people_for_mean) := ⟨rfl, rfl, rfl, by decide +kernel, rfl, by decide +kernel, by decide +kernel⟩
theorem g_people_for_mean : ∀ x ∈ (["need_scale", "_need_number", "_need_places", "need_most", "range", "_totals_with", "tuple"] : List Str), (defScope s_people_for_mean).names.lookup x = some .globalImplicit := by decide +kernel
def spPM (CS CN CL : Addr) : Sp := fun vs H Q E => ∃ (v1 v2 v3 v4 : V) (d1 d2 d3 d4 : PyData), vs = [v1, v2, v3, v4] ∧ (Dv H v1 d1 ∧ Dv H v2 d2 ∧ Dv H v3 d3 ∧ Dv H v4 d4) ∧ (scB d1 = false → up CS v1 H E) ∧ (scB d1 = true → natB d2 = false → up CN v2 H E) ∧
  (scB d1 = true → natB d2 = true → plB d3 = false → up CL v3 H E) ∧ (scB d1 = true → natB d2 = true → plB d3 = true → whB 1 3000 d4 = false → up CN v4 H E) ∧
  ∀ lo hi m p M : Int, d1 = .tuple [.int lo, .int hi] → d2 = .int m → d3 = .int p → d4 = .int M → 0 ≤ lo → lo ≤ hi → hi ≤ 6 → 0 ≤ m → 0 ≤ p → p < 3 → 1 ≤ M → M ≤ 3000 → m ≤ 1000 ∧ ∀ q H', Same H H' → H' q = some (.tup (fnd (okP lo hi m p) M.toNat)) → Q (.ref q) H'
theorem ok_people_for_mean {f CS CN CL : Addr} {fd : FuncData} (F : Fun K "people_for_mean" "people_for_mean" s_people_for_mean f fd) (B : Bl mg) (DS : CallO P w K mg base (L2.CX P w) 4 "need_scale" ["scale"] (spNeed CS scB)) (DN : CallO P w K mg base (L2.CX P w) 3 "_need_number" ["number"] (spNeed CN natB))
    (DL : CallO P w K mg base (L2.CX P w) 4 "_need_places" ["places"] (spNeed CL plB)) (DM : CallO P w K mg base (L2.CX P w) 2 "need_most" ["most"] (spNeed CN (whB 1 3000))) (DT : CallO P w K mg base CX0 1 "_totals_with" ["people", "scale", "mean", "places"] spTW) : FnOk P w K mg base (L2.CX P w) 5 f fd ["scale", "mean", "places", "most"] (spPM CS CN CL) := by
  refine F.okX sc_people_for_mean (fun vs H Q E h => ?_) (fun cdv A outer s H vs Q E hr h => ?_)
  · obtain ⟨v1, v2, v3, v4, d1, d2, d3, d4, rfl, _⟩ := h
    rfl
  · obtain ⟨v1, v2, v3, v4, d1, d2, d3, d4, rfl, ⟨h1, h2, h3, h4⟩, q1, q2, q3, q4, q⟩ := h
    have tk := takes_of (X := cxOf (L2.CX P w) P w K mg base ["scale", "mean", "places", "most", "found", "people", "least", "behind"] "people_for_mean" (defScope s_people_for_mean) f cdv A outer s H E) (E := E) rfl rfl rfl rfl
    refine ⟨_, (pss_cons (ps_expr (pe_doO DS (hr.mono (by decide)) (g_people_for_mean _ (.head _)) (passes_call tk fun _ _ _ _ h => h) (pa_cons (pv 0) pa_nil)))
      (pss_cons (ps_expr (pe_doO DN (hr.mono (by decide)) (g_people_for_mean _ (.tail _ (.head _))) (passes_call tk fun _ _ _ _ h => h) (pa_cons (pv 1) pa_nil)))
      (pss_cons (ps_expr (pe_doO DL (hr.mono (by decide)) (g_people_for_mean _ (.tail _ (.tail _ (.head _)))) (passes_call tk fun _ _ _ _ h => h) (pa_cons (pv 2) pa_nil)))
      (pss_cons (ps_expr (pe_doO DM (hr.mono (by decide)) (g_people_for_mean _ (.tail _ (.tail _ (.tail _ (.head _))))) (passes_call tk fun _ _ _ _ h => h) (pa_cons (pv 3) pa_nil)))
      (pss_cons (ps_set (i := 4) sc_people_for_mean.nd rfl (.inl rfl) (pe_lst pa_nil))
      (pss_mid (ps_for PassesOwn.leaving rfl (pi_range2 (g_people_for_mean _ (.tail _ (.tail _ (.tail _ (.tail _ (.head _)))))) B.range (pa_cons pe_int (pa_cons (pe_op op_add (pv 3) pe_int) pa_nil))) (pg_name (i := 5) sc_people_for_mean.nd rfl (.inl rfl))
        (pss_cons (ps_asg (pe_doO DT (hr.mono (by decide)) (g_people_for_mean _ (.tail _ (.tail _ (.tail _ (.tail _ (.tail _ (.head _))))))) pass0 (pa_cons (pv 5) (pa_cons (pv 0) (pa_cons (pv 1) (pa_cons (pv 2) pa_nil))))) (pg_tup (by rfl) (pgs_cons (pg_name (i := 6) sc_people_for_mean.nd rfl (.inl rfl)) (pgs_cons (pg_name (i := 7) sc_people_for_mean.nd rfl (.inl rfl)) pgs_nil))))
        (pss_one (ps_if (pt_cmpR op_lt (pv 6) (pv 7) (nomark _)) (pss_one (ps_expr (pe_bm PySem.F.plainAttrs_list PySem.F.slot_list_append PySem.F.type_list_append mt_append (pv 4) (pa_cons (pv 5) pa_nil)))) pss_nil))))
      (pss_one (ps_ret (pe_callTy call_tuple_of (g_people_for_mean _ (.tail _ (.tail _ (.tail _ (.tail _ (.tail _ (.tail _ (.head _)))))))) B.tuple (by decide +kernel) (pa_cons (pv 4) pa_nil)))))))))), ?_⟩
    refine ⟨_, rfl, v1, d1, rfl, h1, fun e1 => ?_, q1⟩
    refine ⟨_, rfl, v2, d2, rfl, h2, fun e2 => ?_, q2 e1⟩
    refine ⟨_, rfl, v3, d3, rfl, h3, fun e3 => ?_, q3 e1 e2⟩
    refine ⟨_, rfl, v4, d4, rfl, h4, fun e4 => ?_, q4 e1 e2 e3⟩
    obtain ⟨lo, hi, rfl, l0, l1, l2⟩ := sc_ends e1
    obtain ⟨m, rfl, m0⟩ := nat_int e2
    obtain ⟨p, rfl, p0, p1⟩ := pl_int e3
    obtain ⟨M, rfl, c1, c2⟩ := wh_int e4
    cases h4
    obtain ⟨m1, q⟩ := q lo hi m p M rfl rfl rfl rfl l0 l1 l2 m0 p0 p1 c1 c2
    cases h2
    cases h3
    refine ⟨by show 0 ≤ sizeLine; decide, fun D hD => ?_⟩
    have nD := Same.new (o := .lst []) hD
    refine ⟨fun σ' H' => ∃ (x5 x6 x7 : Option V), σ' = [some v1, some (.int m), some (.int p), some (.int M), some (.ref D), x5, x6, x7] ∧ Bt1 D (upd H D (.lst [])) H' ∧ H' D = some (.lst (fnd (okP lo hi m p) M.toNat)), ?_, ?_⟩
    · refine ⟨_, rfl, _, _, rfl, rfl, _, _, rfl, ⟨by decide, by decide, by omega, by omega⟩, ?_⟩
      rw [show (M + 1 - 1).toNat = M.toNat by omega]
      refine for_range (lo := 1) (n := M.toNat) (fun i σ' H' => ∃ (x5 x6 x7 : Option V), σ' = [some v1, some (.int m), some (.int p), some (.int M), some (.ref D), x5, x6, x7] ∧ Bt1 D (upd H D (.lst [])) H' ∧ H' D = some (.lst (fnd (okP lo hi m p) i)))
        ⟨none, none, none, rfl, fun b o e _ => e, upd_same⟩ ?_ (fun σ' H' z => z)
      rintro i _ H2 hi' ⟨x5, x6, x7, rfl, b2, hd2⟩
      have d1 : Dv H2 v1 (.tuple [.int lo, .int hi]) := dv_bt1 (h1.mono nD) hD b2 nD h1
      refine ⟨_, rfl, _, rfl, _, rfl, _, rfl, 1 + (i : Int), m, p, lo, hi, v1, rfl, d1, ⟨by omega, by omega⟩, ⟨m0, m1⟩, p0, p1, fun z hz => ?_⟩
      have nz := Same.new (o := .tup [V.int (maxI (loT (1 + (i : Int)) m p) ((1 + (i : Int)) * lo)), V.int (minI (beT (1 + (i : Int)) m p) ((1 + (i : Int)) * hi + 1))]) hz
      have zD : z ≠ D := (ne_of_none hd2 hz).symm
      refine ⟨z, _, rfl, .inl (.inl upd_same), rfl, _, _, rfl, _, _, rfl, rfl, ?_⟩
      refine ⟨_, rfl, _, rfl, _, _, rfl, rfl, _, rfl, ?_⟩
      have b3 : Bt1 D (upd H D (.lst [])) (upd H2 z (.tup [V.int (maxI (loT (1 + (i : Int)) m p) ((1 + (i : Int)) * lo)), V.int (minI (beT (1 + (i : Int)) m p) ((1 + (i : Int)) * hi + 1))])) := fun b o e n => nz _ _ (b2 b o e n)
      have step := fnd_succ (okP lo hi m p) i
      refine ite2 (fun c => ?_) (fun c => ?_)
      · have c' : okP lo hi m p (1 + (i : Int)) = true := c
        rw [if_pos c'] at step
        refine ⟨_, rfl, .inl ⟨rfl, _, .inl (.inl (nz _ _ hd2))⟩, _, rfl, D, _, _, rfl, rfl, nz _ _ hd2, Nat.lt_of_le_of_lt (fnd_len _ i) (Nat.lt_of_lt_of_le (show i < 3000 by omega) (by decide)), _, _, _, rfl, fun b o e n => (upd_ne n).trans (b3 b o e n), ?_⟩
        rw [upd_same, step]
      · have c' : ¬ okP lo hi m p (1 + (i : Int)) = true := c
        rw [if_neg c', List.append_nil] at step
        refine ⟨_, _, _, rfl, b3, ?_⟩
        rw [step]
        exact nz _ _ hd2
    rintro _ H2 ⟨x5, x6, x7, rfl, b2, hd2⟩
    refine ⟨_, rfl, D, _, rfl, .inl ⟨.inl (.inl hd2), fun q' hq' => q q' _ (fun b o e => ?_) upd_same⟩⟩
    exact Same.new hq' _ _ (b2 b o (nD _ _ e) (ne_of_none e hD))
end
end K41
namespace Tc
open PySem PySem.Spec PyProof.Rows L2
/-- repr(x), also where an exception is handled -/
theorem call_reprU {X : Cx} (hun : X.A.units + 200 < cLine) (hgd : X.A.guards = some []) (hsm : ∃ o, X.K.lookup sysModules = some o) :
    CallR X (.builtin "repr") rRepr := by
  intro pins s σ H xs us Q I r h
  obtain ⟨v, d, rfl, hv, hs, hd, hl, q⟩ := h
  obtain ⟨u, rfl, ru⟩ := vals1 r
  have sm : H sysModules = none := by
    obtain ⟨o, ho⟩ := hsm
    exact I.bs _ _ (I.ok.mod.kin _ _ ho) |>.2
  obtain ⟨as, rd, na⟩ := Dv.reads I sm hv u ru
  cases hv with
  | non =>
    cases ru
    exact PySem.P.repr_of_none ⟨.str _, H, I.tok _, ⟨_, rfl⟩, q⟩
  | bl b =>
    cases ru
    exact PySem.P.repr_of_bool ⟨.str _, H, I.tok _, ⟨_, rfl⟩, q⟩
  | int i =>
    obtain ⟨t, rfl⟩ := ru
    exact PySem.P.repr_of_int (by simpa [PyData.showable] using hs) ⟨.str _, H, I.tok _, ⟨_, rfl⟩, q⟩
  | str x =>
    obtain ⟨t, rfl⟩ := ru
    exact PySem.P.repr_of_str ⟨.str _, H, I.tok _, ⟨_, rfl⟩, q⟩ (by simpa [PyData.shown] using hl)
  | lst _ _ | tup _ _ | dct _ _ =>
    cases ru
    refine repr_of_reads' rd hs (fun _ => na) hgd (by omega) (fun _ _ e => e) (fun h' u tk hk => ?_) hl
    exact ⟨.str _, H, I.kept (t' := tk) hk, ⟨_, rfl⟩, q⟩
end Tc

namespace K41
open PySem PySem.Spec PyProof.Rows L2 Tc Evl
theorem ceil_div {x k : Int} (h : 0 < k) : 0 - (0 - x) / k = (x + k - 1) / k := by
  have e := Int.mul_ediv_add_emod (0 - x) k
  have r0 := Int.emod_nonneg (0 - x) (show k ≠ 0 by omega)
  have r1 := Int.emod_lt_of_pos (0 - x) h
  generalize (0 - x) / k = q at *
  generalize (0 - x) % k = r at *
  have z : x + k - 1 = (k - 1 - r) + k * (0 - q) := by
    rw [Int.mul_sub, Int.mul_zero]
    omega
  rw [z, Int.add_mul_ediv_left _ _ (show k ≠ 0 by omega), Int.ediv_eq_zero_of_lt (by omega) (by omega)]
  omega
def lowI (n m p : Int) : Int := 0 - (n - 2 * n * m) / (2 * timesI p)
def highI (n m p : Int) : Int := (2 * n * m + n - 1) / (2 * timesI p)
theorem low_eq (n m p : Int) : lowI n m p = loT n m p := by
  have tl := times_le p
  unfold lowI loT
  have e : n - 2 * n * m = 0 - (2 * m - 1) * n := by
    rw [Int.sub_mul, Int.one_mul, Int.mul_assoc, Int.mul_assoc, Int.mul_comm n m]
    omega
  rw [e, ceil_div (by omega)]
theorem high_eq (n m p : Int) : highI n m p + 1 = beT n m p := by
  have tl := times_le p
  unfold highI beT
  have e : 2 * n * m + n = (2 * m + 1) * n := by
    rw [Int.add_mul, Int.one_mul, Int.mul_assoc, Int.mul_assoc, Int.mul_comm n m]
  have z : (2 * m + 1) * n + 2 * timesI p - 1 = (2 * n * m + n - 1) + 1 * (2 * timesI p) := by omega
  rw [z, Int.add_mul_ediv_right _ _ (by omega)]
def enH (n hi m p : Int) : Int := minI (highI n m p) (n * hi)
theorem enH_eq (n hi m p : Int) : enH n hi m p + 1 = beB n hi m p := by
  have h := high_eq n m p
  unfold enH beB minI
  split <;> split <;> omega
theorem enL_eq (n lo m p : Int) : maxI (lowI n m p) (n * lo) = loA n lo m p := by
  unfold loA
  rw [low_eq]
section
variable {P : Program} {w : World} {K : PySem.W.Frag} {mg : Str → Option Value} {base : Heap}
theorem sc_natural : FnScope ["_law_value"] ["_law_value"] (defScope s_natural) := ⟨rfl, rfl, rfl, by decide +kernel, rfl, by decide +kernel, by decide +kernel⟩
theorem g_natural : ∀ x ∈ (["isinstance", "int", "bool"] : List Str), (defScope s_natural).names.lookup x = some .globalImplicit := by decide +kernel
theorem ok_natural {f : Addr} {fd : FuncData} (F : Fun K "_law_natural" "_law_natural" s_natural f fd) (B : Bl mg) : FnOk P w K mg base CX0 1 f fd ["_law_value"] (spB natB) := by
  refine F.ok sc_natural (fun vs H Q E h => ?_) (fun cdv A outer s H vs Q E hr h => ?_)
  · obtain ⟨v, d, rfl, _⟩ := h
    rfl
  · obtain ⟨v, d, rfl, hd, q⟩ := h
    refine ⟨_, pss_one (ps_ret (pe_and (pe_callB call_isi (g_natural _ (.head _)) B.isinstance (by decide +kernel) (pa_cons (pv 0) (pa_cons (pe_bltn (v := .ty "int") (g_natural _ (.tail _ (.head _))) B.int (by decide +kernel) rfl) pa_nil))) (pe_and (pe_not (pe_callB call_isi (g_natural _ (.head _)) B.isinstance (by decide +kernel) (pa_cons (pv 0) (pa_cons (pe_bltn (v := .ty "bool") (g_natural _ (.tail _ (.tail _ (.head _)))) B.bool (by decide +kernel) rfl) pa_nil)))) (pe_one (pe_cmpR op_ge (pv 0) pe_int (nomark _)))))), ?_⟩
    refine q_isi rfl hd (by decide) ⟨_, rfl, ?_⟩
    rw [ty_int]
    cases d with
    | int i =>
      cases hd
      refine iteT (q_isi rfl (.int i) (by decide) ⟨_, rfl, _, rfl, ?_⟩)
      rw [ty_bool]
      exact iteT ⟨_, rfl, _, _, rfl, rfl, q⟩
    | bool b =>
      refine iteT (q_isi rfl hd (by decide) ⟨_, rfl, _, rfl, ?_⟩)
      rw [ty_bool]
      exact iteF q
    | _ => exact iteF q

theorem sc_whole : FnScope ["_law_value", "_law_least", "_law_most"] ["_law_value", "_law_least", "_law_most"] (defScope s_whole) := ⟨rfl, rfl, rfl, by decide +kernel, rfl, by decide +kernel, by decide +kernel⟩
theorem g_whole : ∀ x ∈ (["isinstance", "int", "bool"] : List Str), (defScope s_whole).names.lookup x = some .globalImplicit := by decide +kernel
def spWhole : Sp := fun vs H Q _ => ∃ (v : V) (d : PyData) (a b : Int), vs = [v, .int a, .int b] ∧ Dv H v d ∧ Q (.bl (whB a b d)) H
theorem ok_whole {f : Addr} {fd : FuncData} (F : Fun K "_law_whole" "_law_whole" s_whole f fd) (B : Bl mg) : FnOk P w K mg base CX0 1 f fd ["_law_value", "_law_least", "_law_most"] spWhole := by
  refine F.ok sc_whole (fun vs H Q E h => ?_) (fun cdv A outer s H vs Q E hr h => ?_)
  · obtain ⟨v, d, a, b, rfl, _⟩ := h
    rfl
  · obtain ⟨v, d, a, b, rfl, hd, q⟩ := h
    refine ⟨_, pss_one (ps_ret (pe_and (pe_callB call_isi (g_whole _ (.head _)) B.isinstance (by decide +kernel) (pa_cons (pv 0) (pa_cons (pe_bltn (v := .ty "int") (g_whole _ (.tail _ (.head _))) B.int (by decide +kernel) rfl) pa_nil))) (pe_and (pe_not (pe_callB call_isi (g_whole _ (.head _)) B.isinstance (by decide +kernel) (pa_cons (pv 0) (pa_cons (pe_bltn (v := .ty "bool") (g_whole _ (.tail _ (.tail _ (.head _)))) B.bool (by decide +kernel) rfl) pa_nil)))) (pe_and (pe_cmpR op_le (pv 1) (pv 0) (nomark _)) (pe_one (pe_cmpR op_le (pv 0) (pv 2) (nomark _))))))), ?_⟩
    refine q_isi rfl hd (by decide) ⟨_, rfl, ?_⟩
    rw [ty_int]
    cases d with
    | int i =>
      cases hd
      refine iteT (q_isi rfl (.int i) (by decide) ⟨_, rfl, _, rfl, ?_⟩)
      rw [ty_bool]
      refine iteT ⟨_, rfl, _, rfl, _, _, rfl, rfl, _, rfl, ?_⟩
      have q : Q (.bl (decide (a ≤ i) && decide (i ≤ b))) H := q
      by_cases c : a ≤ i
      · rw [decide_eq_true c] at q ⊢
        exact iteT ⟨_, rfl, _, rfl, _, _, rfl, rfl, q⟩
      · rw [decide_eq_false c] at q ⊢
        exact iteF q
    | bool b =>
      refine iteT (q_isi rfl hd (by decide) ⟨_, rfl, _, rfl, ?_⟩)
      rw [ty_bool]
      exact iteF q
    | _ => exact iteF q
theorem sc_lis_scale : FnScope ["_law_value"] ["_law_value"] (defScope s_lis_scale) := ⟨rfl, rfl, rfl, by decide +kernel, rfl, by decide +kernel, by decide +kernel⟩
theorem g_lis_scale : ∀ x ∈ (["isinstance", "tuple", "len", "_law_whole"] : List Str), (defScope s_lis_scale).names.lookup x = some .globalImplicit := by decide +kernel
theorem sc_two (x y : PyData) : scB (.tuple [x, y]) = (whB 0 6 x && (whB 0 6 y && (match x, y with
  | .int a, .int b => decide (a ≤ b)
  | _, _ => false))) := by
  cases x <;> cases y <;> try rfl
  all_goals try (show false = (_ && (false && _)); simp)
  rename_i a b
  show (decide (0 ≤ a) && (decide (a ≤ b) && decide (b ≤ 6))) = ((decide (0 ≤ a) && decide (a ≤ 6)) && ((decide (0 ≤ b) && decide (b ≤ 6)) && decide (a ≤ b)))
  by_cases h1 : 0 ≤ a <;> by_cases h2 : a ≤ b <;> by_cases h3 : b ≤ 6 <;> by_cases h4 : a ≤ 6 <;> by_cases h5 : 0 ≤ b <;> simp [h1, h2, h3, h4, h5] <;> omega
theorem sc_no2 {d : PyData} (h : ∀ a b, d ≠ .tuple [a, b]) : scB d = false := by
  unfold scB
  split
  · rename_i a b
    exact (h _ _ rfl).elim
  · rfl
theorem ok_lis_scale {f : Addr} {fd : FuncData} (F : Fun K "_law_is_scale" "_law_is_scale" s_lis_scale f fd) (B : Bl mg)
    (D : CallO P w K mg base CX0 1 "_law_whole" ["_law_value", "_law_least", "_law_most"] spWhole) : FnOk P w K mg base CX0 2 f fd ["_law_value"] (spB scB) := by
  refine F.ok sc_lis_scale (fun vs H Q E h => ?_) (fun cdv A outer s H vs Q E hr h => ?_)
  · obtain ⟨v, d, rfl, _⟩ := h
    rfl
  · obtain ⟨v, d, rfl, hd, q⟩ := h
    refine ⟨_, pss_cons (ps_if (PW.pt (pw_or (pt_not (pt_val (pe_callB call_isi (g_lis_scale _ (.head _)) B.isinstance (by decide +kernel) (pa_cons (pv 0) (pa_cons (pe_bltn (v := .ty "tuple") (g_lis_scale _ (.tail _ (.head _))) B.tuple (by decide +kernel) rfl) pa_nil)))))
        (pw_or1 (pt_cmpR op_ne (pe_callB call_len (g_lis_scale _ (.tail _ (.tail _ (.head _)))) B.len (by decide +kernel) (pa_cons (pv 0) pa_nil)) pe_int (nomark _))))) (pss_one (ps_ret pe_bl)) pss_nil)
      (pss_one (ps_ret (pe_and (pe_doO D hr (g_lis_scale _ (.tail _ (.tail _ (.tail _ (.head _))))) pass0 (pa_cons (pe_ix ix_tup (pv 0) pe_int (fun _ _ => rfl)) (pa_cons pe_int (pa_cons pe_int pa_nil)))) (pe_and (pe_doO D hr (g_lis_scale _ (.tail _ (.tail _ (.tail _ (.head _))))) pass0 (pa_cons (pe_ix ix_tup (pv 0) pe_int (fun _ _ => rfl)) (pa_cons pe_int (pa_cons pe_int pa_nil)))) (pe_one (pe_cmpR op_le (pe_ix ix_tup (pv 0) pe_int (fun _ _ => rfl)) (pe_ix ix_tup (pv 0) pe_int (fun _ _ => rfl)) (nomark _))))))), ?_⟩
    refine q_isi rfl hd (by decide) ⟨_, rfl, ?_⟩
    rw [ty_tuple]
    have no : (∀ a b, d ≠ .tuple [a, b]) → Q (.bl false) H := fun h => by
      have e := sc_no2 h
      rw [e] at q
      exact q
    cases d with
    | tuple ds =>
      refine iteF ?_
      obtain ⟨a, xs, rfl, ha, hx⟩ := hd.isT
      have hl := hx.len
      refine ⟨_, rfl, _, xs.length, rfl, .inr ⟨xs, .inl ha, rfl⟩, rfl, _, rfl, ?_⟩
      refine ite2 (fun c => ?_) (fun c => ?_)
      · refine no fun a b z => ?_
        cases z
        rw [hl] at c
        have c : (!decide (V.int ((2 : Nat) : Int) = V.int 2)) = true := c
        exact absurd c (by decide)
      · have h2 : xs.length = 2 := by
          by_cases z : xs.length = 2
          · exact z
          · refine absurd ?_ c
            show (!decide (V.int (xs.length : Int) = V.int 2)) = true
            rw [decide_eq_false (fun e => z (by have := V.int.inj e; omega))] <;> rfl
        obtain ⟨d1, d2, rfl⟩ := two_of (hl.symm.trans h2)
        cases hx with
        | @cons x1 _ _ _ e1 er =>
        cases er with
        | @cons x2 _ _ _ e2 er2 =>
        cases er2
        rw [sc_two] at q
        refine ⟨_, rfl, a, _, 0, x1, rfl, rfl, .inl ha, rfl, x1, d1, 0, 6, rfl, e1, _, rfl, ?_⟩
        cases hw1 : whB 0 6 d1 with
        | false =>
          rw [hw1] at q
          exact iteF q
        | true =>
          rw [hw1] at q
          refine iteT ⟨_, rfl, a, _, 1, x2, rfl, rfl, .inl ha, rfl, x2, d2, 0, 6, rfl, e2, _, rfl, ?_⟩
          cases hw2 : whB 0 6 d2 with
          | false =>
            rw [hw2] at q
            exact iteF q
          | true =>
            rw [hw2] at q
            obtain ⟨i, rfl, _⟩ := wh_int hw1
            obtain ⟨j, rfl, _⟩ := wh_int hw2
            cases e1
            cases e2
            exact iteT ⟨_, rfl, a, _, 0, _, rfl, rfl, .inl ha, rfl, _, rfl, a, _, 1, _, rfl, rfl, .inl ha, rfl, _, _, rfl, rfl, q⟩
    | _ => exact iteT (no fun a b z => nomatch z)
theorem sc_ends_ : FnScope ["_law_people", "_law_scale", "_law_mean", "_law_places", "_law_whole_here", "_law_low", "_law_high"] ["_law_people", "_law_scale", "_law_mean", "_law_places"] (defScope s_ends) := ⟨rfl, rfl, rfl, by decide +kernel, rfl, by decide +kernel, by decide +kernel⟩
theorem g_ends : ∀ x ∈ (["max", "min"] : List Str), (defScope s_ends).names.lookup x = some .globalImplicit := by decide +kernel
def spEn : Sp := fun vs H Q _ => ∃ (n m p lo hi : Int) (v : V), vs = [.int n, v, .int m, .int p] ∧ Dv H v (.tuple [.int lo, .int hi]) ∧ (0 ≤ n ∧ n ≤ 3000) ∧ (0 ≤ m ∧ m ≤ 1000) ∧ 0 ≤ p ∧ p < 3 ∧
  ∀ q H', Same H H' → H' q = some (.tup [.int (loA n lo m p), .int (enH n hi m p)]) → Q (.ref q) H'
theorem ok_ends {f : Addr} {fd : FuncData} (F : Fun K "_law_ends" "_law_ends" s_ends f fd) (B : Bl mg) : FnOk P w K mg base CX0 1 f fd ["_law_people", "_law_scale", "_law_mean", "_law_places"] spEn := by
  refine F.ok sc_ends_ (fun vs H Q E h => ?_) (fun cdv A outer s H vs Q E hr h => ?_)
  · obtain ⟨n, m, p, lo, hi, v, rfl, _⟩ := h
    rfl
  · obtain ⟨n, m, p, lo, hi, v, rfl, hd, ⟨n0, n1⟩, ⟨m0, m1⟩, p0, p1, q⟩ := h
    refine ⟨_, pss_cons (ps_set (i := 4) sc_ends_.nd rfl (.inl rfl) (pe_ix ix_list (pe_lst (pa_cons pe_int (pa_cons pe_int (pa_cons pe_int pa_nil)))) (pv 3) (fun _ _ => rfl)))
      (pss_cons (ps_set (i := 5) sc_ends_.nd rfl (.inl rfl) (pe_op op_sub pe_int (pe_op op_fdiv (pe_op op_sub (pv 0) (pe_op op_mul (pe_op op_mul pe_int (pv 0)) (pv 2))) (pe_op op_mul pe_int (pv 4)))))
      (pss_cons (ps_set (i := 6) sc_ends_.nd rfl (.inl rfl) (pe_op op_fdiv (pe_op op_sub (pe_op op_add (pe_op op_mul (pe_op op_mul pe_int (pv 0)) (pv 2)) (pv 0)) pe_int) (pe_op op_mul pe_int (pv 4))))
      (pss_one (ps_ret (pe_tup (pa_cons (pe_callB (call_max2 rfl) (g_ends _ (.head _)) B.max (by decide +kernel) (pa_cons (pv 5) (pa_cons (pe_op op_mul (pv 0) (pe_ix ix_tup (pv 1) pe_int (fun _ _ => rfl))) pa_nil)))
        (pa_cons (pe_callB (call_min2 rfl) (g_ends _ (.tail _ (.head _))) B.min (by decide +kernel) (pa_cons (pv 6) (pa_cons (pe_op op_mul (pv 0) (pe_ix ix_tup (pv 1) pe_int (fun _ _ => rfl))) pa_nil))) pa_nil))))))), ?_⟩
    have tl := times_le p
    obtain ⟨t, xs, rfl, ht, hx⟩ := hd.isT
    cases hx with
    | cons e1 er =>
    cases er with
    | cons e2 er2 =>
    cases er2
    cases e1
    cases e2
    refine ⟨by show 3 ≤ sizeLine; decide, fun L hL => ?_⟩
    have nL := Same.new (o := .lst [V.int 1, V.int 10, V.int 100]) hL
    have ht' : Rd (upd H L (.lst [V.int 1, V.int 10, V.int 100])) t (.tup [.int lo, .int hi]) := ht.elim (fun z => .inl (nL _ _ z)) (fun ⟨o, z⟩ => .inr ⟨o, nL _ _ z⟩)
    refine ⟨_, rfl, L, _, _, _, rfl, rfl, .inl (.inl upd_same), times_at p0 p1, ?_⟩
    refine ⟨_, rfl, _, rfl, _, _, rfl, rfl, .inl ⟨by decide, by decide⟩, _, rfl, _, _, rfl, rfl, .inl ⟨by omega, by omega⟩, _, _, rfl, rfl, _, rfl, _, _, rfl, rfl, .inl ⟨by decide, by decide⟩, _, _, rfl, rfl, ⟨by omega, by omega⟩, _, _, rfl, rfl, ?_⟩
    refine ⟨_, rfl, _, _, rfl, rfl, .inl ⟨by decide, by decide⟩, _, rfl, _, _, rfl, rfl, .inl ⟨by omega, by omega⟩, _, rfl, _, _, rfl, rfl, _, _, rfl, rfl, _, rfl, _, _, rfl, rfl, .inl ⟨by decide, by decide⟩, _, _, rfl, rfl, ⟨by omega, by omega⟩, ?_⟩
    refine ⟨_, rfl, _, rfl, _, rfl, t, _, 0, _, rfl, rfl, .inl ht', rfl, _, _, rfl, rfl, .inl ⟨by omega, by omega⟩, _, _, rfl, ?_⟩
    refine ⟨_, rfl, _, rfl, _, rfl, t, _, 1, _, rfl, rfl, .inl ht', rfl, _, _, rfl, rfl, .inl ⟨by omega, by omega⟩, _, _, rfl, ?_⟩
    refine ⟨by show 2 ≤ sizeLine; decide, fun z hz => q z _ (nL.trans (Same.new hz)) ?_⟩
    rw [upd_same, ← enL_eq]
    rfl
end
end K41
namespace K41
open PySem PySem.Spec PyProof.Rows L2 Tc Evl
open LamX (tLam LamS lamCx lamEnv Tabs TabB ExtN)
def In4 (CP CS CN CL C : Addr) : Prop := C = CP ∨ C = CS ∨ C = CN ∨ C = CL
/-- what a lambda's exceptions are -/
structure Hx (K : PySem.W.Frag) (mg : Str → Option Value) (CP CS CN CL : Addr) : Prop where
  gp : mg "InvalidPeople" = some (.ref CP)
  gs : mg "InvalidScale" = some (.ref CS)
  gn : mg "InvalidNumber" = some (.ref CN)
  gl : mg "InvalidPlaces" = some (.ref CL)
  rep : mg "repr" = none
  ex : ∀ C D, In4 CP CS CN CL C → In4 CP CS CN CL D → PySem.W.exmOne K (.ref C) (.ref D) = some (decide (C = D))
  exa : ∀ C, In4 CP CS CN CL C → ExA K C
  noF : ∀ C, In4 CP CS CN CL C → PySem.W.findIn K (.ref C) "given" = some none
/-- the suite of a clause -/
def suiteOf (i : Nat) (st : Stmt) : List Stmt := match defBody st with
  | [.Try _ hds _ _ _] => (match hds.getD i (.ExceptHandler none none [] ⟨0, 0, 0, 0⟩) with
    | .ExceptHandler _ _ b _ => b)
  | _ => []
theorem pss_ex {ι : Type} {X : Cx} {body : List Stmt} {c : ι → Prop} {t : ι → TS} (h : ∀ i, c i → PSs X body (t i)) : PSs X body (fun D σ H => ∃ i, c i ∧ t i D σ H) := by
  constructor
  intro pins s σ H D I hh
  obtain ⟨i, hc, ht⟩ := hh
  exact (h i hc).run pins s σ H D I ht
theorem takes_len {X : Cx} {W : WX} (tk : Takes X W) : Takes X (fun cls d σ H => σ.length = X.N.length → W cls d σ H) := fun u s' x => by
  obtain ⟨a, B, sI, pins, σ, H, cls, d, e, I, r1, r2, r3, r4, r5, r6, w⟩ := x
  exact tk u s' ⟨a, B, sI, pins, σ, H, cls, d, e, I, r1, r2, r3, r4, r5, r6, w I.len⟩
def kindOf (CP CS CN C : Addr) : Str := if C = CP then "people" else if C = CS then "scale" else if C = CN then "number" else "places"
/-- _law_ended of a lambda -/
def TTe (CP CS CN CL : Addr) : (XK → Hp → VK → Prop) → Hp → VK → Prop := fun tl H Q =>
  tl (fun cls d H' => ∃ (C dd : Addr) (v : V) (dt : PyData), cls = .ref C ∧ In4 CP CS CN CL C ∧ d = some dd ∧ H' dd = some (.xd [("given", v)]) ∧ Dv H' v dt ∧ Good dt ∧ ∀ p H2, Same H' H2 → H2 p = some (.lst [.str (kindOf CP CS CN C), .str dt.shown]) → Q (.ref p) H2) H
    (fun v H1 => [V.str "gave", v].length ≤ sizeLine ∧ ∀ p, H1 p = none → Q (.ref p) (upd H1 p (.lst [.str "gave", v])))
theorem sc_ended : FnScope ["_law_act", "e"] ["_law_act"] (defScope s_ended) := ⟨rfl, rfl, rfl, by decide +kernel, rfl, by decide +kernel, by decide +kernel⟩
theorem g_ended : ∀ x ∈ (["InvalidPeople", "InvalidScale", "InvalidNumber", "InvalidPlaces", "repr"] : List Str), (defScope s_ended).names.lookup x = some .globalImplicit := by decide +kernel
theorem ended_gives {X : Cx} {g : Addr} {cdg : Value} {q : Str} {CP CS CN CL : Addr} (T : Hx X.K X.mg CP CS CN CL) (h0 : ∀ f : Addr, (L2.start ["_law_act", "e"] [V.ref f])[0]? = some (some (V.ref f)))
    (hun0 : X.A.units + 220 < cLine) (hgd0 : X.A.guards = some []) (hsm : ∃ o, X.K.lookup sysModules = some o) :
    LamX.GivesTo X ["_law_act", "e"] "_law_ended" (defScope s_ended) g cdg (defBody s_ended) "_law_act" q (TTe CP CS CN CL) := by
  intro f c' s H Q tl act hc h
  refine ⟨_, pss_one (ps_try_manyAs (X := (cxOf C8.CX0 X.prog X.w X.K X.mg X.base ["_law_act", "e"] "_law_ended" (defScope s_ended) g cdg X.A X.stack s H C8.E0).nox) (i := 1) (n := "e")
      (tb := fun W D σ H => ∃ Ech : XK, (∀ cls d σ' H', σ'.length = 2 → Ech cls d H' → W cls d σ' H') ∧ tRet (tLst (tCons (tC (.str "gave")) (tCons (fun σZ HZ Q => σZ[0]? = some (some (.ref f)) ∧ HZ c' = some (LamX.CodeO c' q) ∧ tl Ech HZ Q) tNil))) D σ H)
      rfl rfl sc_ended.nd rfl (by rfl) (fun W pn xe tk _ => ?_) (.cons (g_ended _ (.head _)) T.gp (ts := fun a cls d D σ HH => ∃ t : TS, (∀ (oe : Obj) (pn : List (Addr × Obj)), Zc cls d oe → (∃ vs, oe.data = .fields vs) → PSs ((cxOf C8.CX0 X.prog X.w X.K X.mg X.base ["_law_act", "e"] "_law_ended" (defScope s_ended) g cdg X.A X.stack s H C8.E0).nox.suite a ((a, oe) :: pn)) (suiteOf 0 s_ended) t) ∧ t D σ HH) (fun a oe cls d pn hz hf => ⟨fun pins s' σ H' D I h' => by
      obtain ⟨t, ht, h'⟩ := h'
      exact (ht oe pn hz hf).run pins s' σ H' D I h'⟩) (.cons (g_ended _ (.tail _ (.head _))) T.gs (ts := fun a cls d D σ HH => ∃ t : TS, (∀ (oe : Obj) (pn : List (Addr × Obj)), Zc cls d oe → (∃ vs, oe.data = .fields vs) → PSs ((cxOf C8.CX0 X.prog X.w X.K X.mg X.base ["_law_act", "e"] "_law_ended" (defScope s_ended) g cdg X.A X.stack s H C8.E0).nox.suite a ((a, oe) :: pn)) (suiteOf 1 s_ended) t) ∧ t D σ HH) (fun a oe cls d pn hz hf => ⟨fun pins s' σ H' D I h' => by
      obtain ⟨t, ht, h'⟩ := h'
      exact (ht oe pn hz hf).run pins s' σ H' D I h'⟩) (.cons (g_ended _ (.tail _ (.tail _ (.head _)))) T.gn (ts := fun a cls d D σ HH => ∃ t : TS, (∀ (oe : Obj) (pn : List (Addr × Obj)), Zc cls d oe → (∃ vs, oe.data = .fields vs) → PSs ((cxOf C8.CX0 X.prog X.w X.K X.mg X.base ["_law_act", "e"] "_law_ended" (defScope s_ended) g cdg X.A X.stack s H C8.E0).nox.suite a ((a, oe) :: pn)) (suiteOf 2 s_ended) t) ∧ t D σ HH) (fun a oe cls d pn hz hf => ⟨fun pins s' σ H' D I h' => by
      obtain ⟨t, ht, h'⟩ := h'
      exact (ht oe pn hz hf).run pins s' σ H' D I h'⟩) (.cons (g_ended _ (.tail _ (.tail _ (.tail _ (.head _))))) T.gl (ts := fun a cls d D σ HH => ∃ t : TS, (∀ (oe : Obj) (pn : List (Addr × Obj)), Zc cls d oe → (∃ vs, oe.data = .fields vs) → PSs ((cxOf C8.CX0 X.prog X.w X.K X.mg X.base ["_law_act", "e"] "_law_ended" (defScope s_ended) g cdg X.A X.stack s H C8.E0).nox.suite a ((a, oe) :: pn)) (suiteOf 3 s_ended) t) ∧ t D σ HH) (fun a oe cls d pn hz hf => ⟨fun pins s' σ H' D I h' => by
      obtain ⟨t, ht, h'⟩ := h'
      exact (ht oe pn hz hf).run pins s' σ H' D I h'⟩) .nil))))), ?_⟩
  · exact pss_ex fun Ech hW => pss_one (ps_ret (pe_lst (pa_cons pe_str (pa_cons (act _ pn xe Ech _ _ (takes_len tk) fun cls d σ' H' hE hl => hW cls d σ' H' hl hE) pa_nil))))
  · refine ⟨_, fun cls d σ' H' hl hE => ?_, h0 f, hc, h⟩
    obtain ⟨C, dd, v, dt, rfl, hC, rfl, hd, hv, hg, hQ⟩ := hE
    match σ', hl with
    | [y0, y1], _ =>
    have unA : ∀ (a : Addr) (oe : Obj) (pn : List (Addr × Obj)), ((cxOf C8.CX0 X.prog X.w X.K X.mg X.base ["_law_act", "e"] "_law_ended" (defScope s_ended) g cdg X.A X.stack s H C8.E0).nox.suite a ((a, oe) :: pn)).A.units + 200 < cLine := fun a oe pn => by
      show X.A.units + 3 + 200 < cLine
      omega
    have gdA : ∀ (a : Addr) (oe : Obj) (pn : List (Addr × Obj)), ((cxOf C8.CX0 X.prog X.w X.K X.mg X.base ["_law_act", "e"] "_law_ended" (defScope s_ended) g cdg X.A X.stack s H C8.E0).nox.suite a ((a, oe) :: pn)).A.guards = some [] := fun a oe pn => hgd0
    refine ⟨decide (C = CP), T.ex C CP hC (.inl rfl), fun b1 a ha => ⟨_, fun oe pn hz hf => pss_one (ps_ret (pe_lst (pa_cons pe_str (pa_cons (pe_callB (call_reprU (unA a oe pn) (gdA a oe pn) hsm) (g_ended _ (.tail _ (.tail _ (.tail _ (.tail _ (.head _)))))) T.rep (by decide +kernel) (pa_cons (pe_xf ⟨(T.exa C hC).ga, (T.exa C hC).gg, (T.exa C hC).ex, (T.exa C hC).own⟩ (T.noF C hC) hz hf (pv 1)) pa_nil)) pa_nil)))), ?_⟩, fun b1 => ?_⟩
    · have kk : kindOf CP CS CN C = "people" := (if_pos (of_decide_eq_true b1))
      rw [kk] at hQ
      exact ⟨_, rfl, rfl, rfl, dd, _, v, rfl, hd, by simp [List.lookup], v, dt, rfl, hv, hg.1, hg.2.1, hg.2.2, by show 2 ≤ sizeLine; decide, fun p3 hp3 => hQ p3 _ (Same.new hp3) upd_same⟩
    refine ⟨decide (C = CS), T.ex C CS hC (.inr (.inl rfl)), fun b2 a ha => ⟨_, fun oe pn hz hf => pss_one (ps_ret (pe_lst (pa_cons pe_str (pa_cons (pe_callB (call_reprU (unA a oe pn) (gdA a oe pn) hsm) (g_ended _ (.tail _ (.tail _ (.tail _ (.tail _ (.head _)))))) T.rep (by decide +kernel) (pa_cons (pe_xf ⟨(T.exa C hC).ga, (T.exa C hC).gg, (T.exa C hC).ex, (T.exa C hC).own⟩ (T.noF C hC) hz hf (pv 1)) pa_nil)) pa_nil)))), ?_⟩, fun b2 => ?_⟩
    · have kk : kindOf CP CS CN C = "scale" := ((if_neg (of_decide_eq_false b1)).trans (if_pos (of_decide_eq_true b2)))
      rw [kk] at hQ
      exact ⟨_, rfl, rfl, rfl, dd, _, v, rfl, hd, by simp [List.lookup], v, dt, rfl, hv, hg.1, hg.2.1, hg.2.2, by show 2 ≤ sizeLine; decide, fun p3 hp3 => hQ p3 _ (Same.new hp3) upd_same⟩
    refine ⟨decide (C = CN), T.ex C CN hC (.inr (.inr (.inl rfl))), fun b3 a ha => ⟨_, fun oe pn hz hf => pss_one (ps_ret (pe_lst (pa_cons pe_str (pa_cons (pe_callB (call_reprU (unA a oe pn) (gdA a oe pn) hsm) (g_ended _ (.tail _ (.tail _ (.tail _ (.tail _ (.head _)))))) T.rep (by decide +kernel) (pa_cons (pe_xf ⟨(T.exa C hC).ga, (T.exa C hC).gg, (T.exa C hC).ex, (T.exa C hC).own⟩ (T.noF C hC) hz hf (pv 1)) pa_nil)) pa_nil)))), ?_⟩, fun b3 => ?_⟩
    · have kk : kindOf CP CS CN C = "number" := ((if_neg (of_decide_eq_false b1)).trans ((if_neg (of_decide_eq_false b2)).trans (if_pos (of_decide_eq_true b3))))
      rw [kk] at hQ
      exact ⟨_, rfl, rfl, rfl, dd, _, v, rfl, hd, by simp [List.lookup], v, dt, rfl, hv, hg.1, hg.2.1, hg.2.2, by show 2 ≤ sizeLine; decide, fun p3 hp3 => hQ p3 _ (Same.new hp3) upd_same⟩
    refine ⟨decide (C = CL), T.ex C CL hC (.inr (.inr (.inr rfl))), fun b4 a ha => ⟨_, fun oe pn hz hf => pss_one (ps_ret (pe_lst (pa_cons pe_str (pa_cons (pe_callB (call_reprU (unA a oe pn) (gdA a oe pn) hsm) (g_ended _ (.tail _ (.tail _ (.tail _ (.tail _ (.head _)))))) T.rep (by decide +kernel) (pa_cons (pe_xf ⟨(T.exa C hC).ga, (T.exa C hC).gg, (T.exa C hC).ex, (T.exa C hC).own⟩ (T.noF C hC) hz hf (pv 1)) pa_nil)) pa_nil)))), ?_⟩, fun b4 => ?_⟩
    · have kk : kindOf CP CS CN C = "places" := ((if_neg (of_decide_eq_false b1)).trans ((if_neg (of_decide_eq_false b2)).trans (if_neg (of_decide_eq_false b3))))
      rw [kk] at hQ
      exact ⟨_, rfl, rfl, rfl, dd, _, v, rfl, hd, by simp [List.lookup], v, dt, rfl, hv, hg.1, hg.2.1, hg.2.2, by show 2 ≤ sizeLine; decide, fun p3 hp3 => hQ p3 _ (Same.new hp3) upd_same⟩
    rcases hC with z | z | z | z
    · exact of_decide_eq_false b1 z
    · exact of_decide_eq_false b2 z
    · exact of_decide_eq_false b3 z
    · exact of_decide_eq_false b4 z
end K41
namespace K41
open PySem PySem.Spec PyProof.Rows L2 Tc Evl
open LamX (tLam LamS lamCx lamEnv Tabs TabB ExtN)
section
variable {X : Cx} {T : List (Addr × Str)} {g c P CP CS CN CL : Addr} {fd : FuncData} {k : Nat} {params : Arguments} {body : Expr} {scope : Scope} {t : XK → TE} {p lpos pos : Pos}
/-- _law_ended(lambda: body) -/
theorem pe_ended (F : Fun X.K "_law_ended" "_law_ended" s_ended g fd) (gm : X.mg "_law_ended" = some (.ref g)) (TH : Hx X.K X.mg CP CS CN CL) (hgd : X.A.guards = some []) (hsm : ∃ o, X.K.lookup sysModules = some o) (hg : Gl X "_law_ended")
    (TB : TabB X.base X.mg c P) (hcode : X.env.code = .ref c) (hmT : (P, X.env.qual ++ "<lambda>") ∈ T) (hu : ∀ p ∈ T, p.1 = P → p.2 = X.env.qual ++ "<lambda>") (hr : Room (k + 2) X.A) (L : LamS X.env.scope scope) (hdef : defaultsOf params X.env = ([], []))
    (hbind : ∀ (q : Str) (cl : List (Str × Addr)) (pm cv ctv : Value), bindArgs (PySem.W.kla_fn "<lambda>" q params body scope cl pm cv ctv) ⟨[], []⟩ = pure [])
    (hbody : ∀ (A : Around) (outer : List Env) (s : Shared) (H : Hp) (E : XK) (f c' : Addr), Room k (A.deeper (lamEnv X scope s.heap.objs.size f c')) → PE (lamCx X A outer s H E scope f c') body (t E)) :
    PE X (.Call (.Name "_law_ended" p) [.Lambda params body scope lpos] [] pos) (tLam T (TTe CP CS CN CL) t) := by
  have kp := F.kp
  have hb : Binds X.K fd ["_law_act"] [] := F.binds fun _ _ _ _ _ _ us hl => match us, hl with | [_], _ => rfl
  obtain ⟨oc, od, kV, doc, pm, an, cdv, ct, osl, rfl, lk, hcd⟩ := F.ex
  exact LamX.pe_lamcall (Ng := ["_law_act", "e"]) (a := "_law_act") hg gm kp lk hcd hb sc_ended rfl (.inl (by decide +kernel)) (ended_gives TH (fun f => rfl) (by have := hr.un; omega) hgd hsm) TB hcode hmT hu hr L hdef hbind hbody
end

/-- all but what stands at two places -/
def hid (a b : Addr) (H : Hp) : Hp := fun c => if c = a ∨ c = b then none else H c
def Bt2 (a b : Addr) (H H' : Hp) : Prop := ∀ c o, H c = some o → c ≠ a → c ≠ b → H' c = some o
theorem hid_of {a b p : Addr} {H : Hp} {o : HO} (h : H p = some o) (n : p ≠ a) (m : p ≠ b) : hid a b H p = some o := (if_neg (fun z => z.elim n m)).trans h
theorem hid_split {a b p : Addr} {H : Hp} {o : HO} (h : hid a b H p = some o) : H p = some o ∧ p ≠ a ∧ p ≠ b := by
  by_cases z : p = a ∨ p = b
  · have q : hid a b H p = none := if_pos z
    rw [q] at h
    cases h
  · have q : hid a b H p = H p := if_neg z
    exact ⟨q.symm.trans h, fun e => z (.inl e), fun e => z (.inr e)⟩
theorem hid_bt {a b : Addr} {H H' : Hp} (s : Bt2 a b H H') : Same (hid a b H) (hid a b H') := fun c o h => by
  obtain ⟨h, n, m⟩ := hid_split h
  exact hid_of (s c o h n m) n m
theorem hid_in (a b : Addr) (H : Hp) : Same (hid a b H) H := fun c o h => (hid_split h).1
theorem Bt2.of {a b : Addr} {H H' : Hp} (s : But a H H') : Bt2 a b H H' := fun c o h n _ => s c o h n
theorem Bt2.same {a b : Addr} {H H' : Hp} (s : Same H H') : Bt2 a b H H' := fun c o h _ _ => s c o h
theorem Bt2.trans {a b : Addr} {H H1 H2 : Hp} (x : Bt2 a b H H1) (y : Bt2 a b H1 H2) : Bt2 a b H H2 := fun c o h n m => y c o (x c o h n m) n m
def Kp (a : Addr) (H H' : Hp) : Prop := ∀ b o, H b = some o → b ≠ a → (∀ ps, o ≠ .tbl ps) → H' b = some o
theorem Kp.same {a : Addr} {H H1 H2 : Hp} (k : Kp a H H1) (s : Same H1 H2) : Kp a H H2 := fun b o e n z => s _ _ (k b o e n z)
theorem Kp.but {a : Addr} {H H1 H2 : Hp} (k : Kp a H H1) (s : But a H1 H2) : Kp a H H2 := fun b o e n z => s _ _ (k b o e n z) n
theorem Kp.ext {a : Addr} {H H1 H2 : Hp} (k : Kp a H H1) (s : ExtN H1 H2) : Kp a H H2 := fun b o e n z => s _ _ (k b o e n z) z
theorem Kp.refl (a : Addr) (H : Hp) : Kp a H H := fun b o e n z => e
theorem pail_ext {H H' : Hp} {a : Addr} (h : Pail H a) (s : ExtN H H') : Pail H' a := by
  obtain ⟨m, o, h, r⟩ := h
  exact ⟨m, o, s _ _ h (fun _ z => nomatch z), r⟩
theorem tabs_but {T : List (Addr × Str)} {H H' : Hp} {a : Addr} (h : Tabs T H) (j : Pail H a) (k : But a H H') : Tabs T H' := by
  obtain ⟨m, o, e, _⟩ := j
  exact tabs_keep h e k

/-- values that are shown -/
structure Vl (d : PyData) : Prop where
  good : Good d
  so : PyData.strOk d.shown = true
theorem so_nat (m : Nat) : PyData.strOk (Str.ofString (toString ((m : Nat) : Int))) = true := by
  unfold PyData.strOk
  rw [← Array.all_toList, PySem.W.KIN.signs_num, List.all_eq_true]
  intro c hc
  obtain ⟨ch, _, rfl⟩ := List.mem_map.mp hc
  refine decide_eq_true ?_
  have v := ch.valid
  show ch.val.toNat < 0x110000
  rcases v with v | ⟨_, v⟩
  · exact Nat.lt_trans v (by decide)
  · exact v
theorem log_lt {i : Int} {k : Nat} (h : i.natAbs < 2 ^ k) (hk : 0 < k) : i.natAbs.log2 < k := by
  by_cases e : i.natAbs = 0
  · rw [e]
    exact hk
  · exact (Nat.log2_lt e).mpr h
theorem vl_int {i : Int} (h0 : 0 ≤ i) (hb : i.natAbs < 2 ^ 250) : Vl (.int i) := by
  have lg := log_lt hb (by decide)
  refine ⟨⟨decide_eq_true (by omega), Nat.zero_le _, ?_⟩, ?_⟩
  · show (Str.ofString (toString i)).length ≤ sizeLine
    have t : i < 10 ^ 100 := by
      have : (2 : Nat) ^ 250 < 10 ^ 100 := by decide
      have z : ((10 ^ 100 : Nat) : Int) = (10 : Int) ^ 100 := by decide
      rw [← z]
      omega
    exact Nat.le_trans (PyProof.Rows.toString_length_le h0 (k := 100) (by decide) t) (by decide)
  · show PyData.strOk (Str.ofString (toString i)) = true
    rw [show i = ((i.toNat : Nat) : Int) from (Int.toNat_of_nonneg h0).symm]
    exact so_nat _
theorem vl_neg : Vl (.int (-1)) := ⟨by decide +kernel, by decide +kernel⟩
theorem vl_none : Vl .none := ⟨by decide +kernel, by decide +kernel⟩
theorem vl_bl (b : Bool) : Vl (.bool b) := ⟨by cases b <;> decide +kernel, by cases b <;> decide +kernel⟩
theorem vl_one : Vl (.str "1") := ⟨by decide +kernel, by decide +kernel⟩
theorem vl_tup : Vl (.tuple [.int 1]) := ⟨by decide +kernel, by decide +kernel⟩
theorem vl_lst : Vl (.list []) := ⟨by decide +kernel, by decide +kernel⟩

theorem vl_21 : Vl (.tuple [.int 2, .int 1]) := ⟨by decide +kernel, by decide +kernel⟩
theorem vl_t3 : Vl (.tuple [.bool true, .int 3]) := ⟨by decide +kernel, by decide +kernel⟩
theorem vl_l04 : Vl (.list [.int 0, .int 4]) := ⟨by decide +kernel, by decide +kernel⟩
theorem vl_small : ∀ a b : Fin 8, Vl (.tuple [.int (a.val : Int), .int (b.val : Int)]) := fun a b => by
  have z : ∀ a b : Fin 8, Good (.tuple [.int (a.val : Int), .int (b.val : Int)]) ∧ PyData.strOk (PyData.shown (.tuple [.int (a.val : Int), .int (b.val : Int)])) = true := by decide +kernel
  exact ⟨(z a b).1, (z a b).2⟩
theorem vl_sc {a b : Int} (h0 : 0 ≤ a) (h1 : a ≤ 7) (h2 : 0 ≤ b) (h3 : b ≤ 7) : Vl (.tuple [.int a, .int b]) := by
  have z := vl_small ⟨a.toNat, by omega⟩ ⟨b.toNat, by omega⟩
  have e1 : ((a.toNat : Nat) : Int) = a := Int.toNat_of_nonneg h0
  have e2 : ((b.toNat : Nat) : Int) = b := Int.toNat_of_nonneg h2
  have z : Vl (.tuple [.int ((a.toNat : Nat) : Int), .int ((b.toNat : Nat) : Int)]) := z
  rw [e1, e2] at z
  exact z
/-- what is due -/
def resD (k : Str) (d : PyData) : PyData := .list [.str k, .str d.shown]
def dueO (x : Option PyData) (k : Str) (r : PyData) : PyData := match x with
  | none => r
  | some d => if whB 1 3000 d = false then resD k d else r
def dueA (dp : Option PyData) (d2 d3 d4 : PyData) (dm : Option PyData) : PyData :=
  dueO dp "people" (if scB d2 = false then resD "scale" d2 else if natB d3 = false then resD "number" d3 else if plB d4 = false then resD "places" d4 else dueO dm "number" (.list []))
/-- what is due, as data -/
def DueOk (res : PyData) : Prop := res = .list [] ∨ ∃ k x : Str, res = .list [.str k, .str x] ∧ PyData.strOk k = true ∧ PyData.strOk x = true

theorem res_ok {k : Str} {d : PyData} (hk : PyData.strOk k = true) (h : Vl d) : DueOk (resD k d) := .inr ⟨k, d.shown, rfl, hk, h.so⟩
def VlO (x : Option PyData) : Prop := ∀ d, x = some d → Vl d
theorem dueO_ok {x : Option PyData} {k : Str} {r : PyData} (hk : PyData.strOk k = true) (h : VlO x) (hr : DueOk r) : DueOk (dueO x k r) := by
  unfold dueO
  cases x with
  | none => exact hr
  | some d =>
    show DueOk (if whB 1 3000 d = false then resD k d else r)
    split
    · exact res_ok hk (h d rfl)
    · exact hr
theorem dueA_ok {dp dm : Option PyData} {d2 d3 d4 : PyData} (h1 : VlO dp) (h2 : Vl d2) (h3 : Vl d3) (h4 : Vl d4) (h5 : VlO dm) : DueOk (dueA dp d2 d3 d4 dm) := by
  unfold dueA
  refine dueO_ok (by decide +kernel) h1 ?_
  split
  · exact res_ok (by decide +kernel) h2
  split
  · exact res_ok (by decide +kernel) h3
  split
  · exact res_ok (by decide +kernel) h4
  · exact dueO_ok (by decide +kernel) h5 (.inl rfl)
theorem DueOk.dp {K : PySem.W.Frag} {res : PyData} {H : Hp} {p : Addr} (h : DueOk res) (v : Dv H (.ref p) res) : Dp K H (.ref p) res := by
  rcases h with rfl | ⟨k, x, rfl, _⟩
  · cases v with
    | lst rd all =>
      cases all
      exact .lst (.inl rd) .nil
  · cases v with
    | lst rd all =>
      cases all with
      | cons a b =>
      cases b with
      | cons b c =>
      cases c
      cases a
      cases b
      exact .lst (.inl rd) (.cons (.str _) (.cons (.str _) .nil))
theorem DueOk.shaped {res : PyData} (h : DueOk res) : SeqAt.shaped res = true := by
  rcases h with rfl | ⟨k, x, rfl, hk, hx⟩
  · rfl
  · show ((PyData.strOk k && (PyData.strOk x && true)) && decide (max (0 : Nat) (max 0 0) + 1 ≤ 64)) = true
    rw [hk, hx] <;> rfl
theorem DueOk.self {res : PyData} (h : DueOk res) : PyData.eqv res res = true := by
  rcases h with rfl | ⟨k, x, rfl, _⟩
  · rfl
  · show ((k == k) && ((x == x) && true)) = true
    simp
theorem DueOk.nil {res : PyData} (h : DueOk res) : (res = .list [] ∧ PyData.eqv res (.list []) = true) ∨ (res ≠ .list [] ∧ PyData.eqv res (.list []) = false) := by
  rcases h with rfl | ⟨k, x, rfl, _⟩
  · exact .inl ⟨rfl, rfl⟩
  · exact .inr ⟨(fun z => nomatch z), rfl⟩

section
variable {P : Program} {w : World} {K : PySem.W.Frag} {mg : Str → Option Value} {base : Heap}
theorem sc_due : FnScope ["_law_people", "_law_scale", "_law_mean", "_law_places", "_law_most"] ["_law_people", "_law_scale", "_law_mean", "_law_places", "_law_most"] (defScope s_due) := ⟨rfl, rfl, rfl, by decide +kernel, rfl, by decide +kernel, by decide +kernel⟩
theorem g_due : ∀ x ∈ (["_law_whole", "repr", "_law_is_scale", "_law_natural"] : List Str), (defScope s_due).names.lookup x = some .globalImplicit := by decide +kernel
/-- None, or a list of one -/
def OptAt (H : Hp) (v : V) (x : Option PyData) : Prop := match x with
  | none => v = .non
  | some d => ∃ (b : Addr) (y : V), v = .ref b ∧ H b = some (.lst [y]) ∧ Dv H y d
theorem opt_same {H H' : Hp} {v : V} {x : Option PyData} (s : Same H H') (h : OptAt H v x) : OptAt H' v x := by
  cases x with
  | none => exact h
  | some d =>
    obtain ⟨b, y, e, hb, hy⟩ := h
    exact ⟨b, y, e, s _ _ hb, hy.mono s⟩
def spDue : Sp := fun vs H Q _ => ∃ (v1 v2 v3 v4 v5 : V) (dp dm : Option PyData) (d2 d3 d4 : PyData), vs = [v1, v2, v3, v4, v5] ∧ (OptAt H v1 dp ∧ Dv H v2 d2 ∧ Dv H v3 d3 ∧ Dv H v4 d4 ∧ OptAt H v5 dm) ∧ (VlO dp ∧ Vl d2 ∧ Vl d3 ∧ Vl d4 ∧ VlO dm) ∧
  ∀ (p : Addr) (H' : Hp), Same H H' → Dv H' (.ref p) (dueA dp d2 d3 d4 dm) → Q (.ref p) H'
theorem ok_due {f : Addr} {fd : FuncData} (F : Fun K "_law_due" "_law_due" s_due f fd) (B : Bl mg) (SM : ∃ o, K.lookup sysModules = some o)
    (DN : CallO P w K mg base CX0 1 "_law_natural" ["_law_value"] (spB natB)) (DW : CallO P w K mg base CX0 1 "_law_whole" ["_law_value", "_law_least", "_law_most"] spWhole) (DS : CallO P w K mg base CX0 2 "_law_is_scale" ["_law_value"] (spB scB)) :
    FnG P w K mg base CX0 3 f fd ["_law_people", "_law_scale", "_law_mean", "_law_places", "_law_most"] spDue := by
  refine Fun.okG F sc_due (fun vs H Q E h => ?_) (fun cdv A outer s H vs Q E hr hgd h => ?_)
  · obtain ⟨v1, v2, v3, v4, v5, dp, dm, d2, d3, d4, rfl, _⟩ := h
    rfl
  · obtain ⟨v1, v2, v3, v4, v5, dp, dm, d2, d3, d4, rfl, ⟨o1, h2, h3, h4, o5⟩, ⟨g1, g2, g3, g4, g5⟩, hQ⟩ := h
    have hun : (A.deeper (envOfC "_law_due" (defScope s_due) s.heap.objs.size f cdv)).units + 200 < cLine := by
      have := hr.un
      omega
    have pw : ∀ d : PyData, plB d = whB 0 2 d := fun d => by
      cases d with
      | int i =>
        show (decide (0 ≤ i) && decide (i < 3)) = (decide (0 ≤ i) && decide (i ≤ 2))
        rw [show decide (i < 3) = decide (i ≤ 2) from decide_eq_decide.mpr (by omega)]
      | _ => rfl
    refine ⟨_, (pss_mid (ps_if (PW.pt (pw_and (pt_cmpR op_notN (pv 0) pe_non (nomark _)) (pw_and1 (pt_not (pt_val (pe_doO DW (hr.mono (by decide)) (g_due _ (.head _)) pass0 (pa_cons (pe_ix ix_list (pv 0) pe_int (fun _ _ => rfl)) (pa_cons pe_int (pa_cons pe_int pa_nil))))))))) (pss_one (ps_ret (pe_lst (pa_cons pe_str (pa_cons (pe_callB (call_reprU hun hgd SM) (g_due _ (.tail _ (.head _))) B.repr (by decide +kernel) (pa_cons (pe_ix ix_list (pv 0) pe_int (fun _ _ => rfl)) pa_nil)) pa_nil))))) pss_nil)
      (pss_cons (ps_if (pt_not (pt_val (pe_doO DS (hr.mono (by decide)) (g_due _ (.tail _ (.tail _ (.head _)))) pass0 (pa_cons (pv 1) pa_nil)))) (pss_one (ps_ret (pe_lst (pa_cons pe_str (pa_cons (pe_callB (call_reprU hun hgd SM) (g_due _ (.tail _ (.head _))) B.repr (by decide +kernel) (pa_cons (pv 1) pa_nil)) pa_nil))))) pss_nil)
      (pss_cons (ps_if (pt_not (pt_val (pe_doO DN (hr.mono (by decide)) (g_due _ (.tail _ (.tail _ (.tail _ (.head _))))) pass0 (pa_cons (pv 2) pa_nil)))) (pss_one (ps_ret (pe_lst (pa_cons pe_str (pa_cons (pe_callB (call_reprU hun hgd SM) (g_due _ (.tail _ (.head _))) B.repr (by decide +kernel) (pa_cons (pv 2) pa_nil)) pa_nil))))) pss_nil)
      (pss_cons (ps_if (pt_not (pt_val (pe_doO DW (hr.mono (by decide)) (g_due _ (.head _)) pass0 (pa_cons (pv 3) (pa_cons pe_int (pa_cons pe_int pa_nil)))))) (pss_one (ps_ret (pe_lst (pa_cons pe_str (pa_cons (pe_callB (call_reprU hun hgd SM) (g_due _ (.tail _ (.head _))) B.repr (by decide +kernel) (pa_cons (pv 3) pa_nil)) pa_nil))))) pss_nil)
      (pss_cons (ps_if (PW.pt (pw_and (pt_cmpR op_notN (pv 4) pe_non (nomark _)) (pw_and1 (pt_not (pt_val (pe_doO DW (hr.mono (by decide)) (g_due _ (.head _)) pass0 (pa_cons (pe_ix ix_list (pv 4) pe_int (fun _ _ => rfl)) (pa_cons pe_int (pa_cons pe_int pa_nil))))))))) (pss_one (ps_ret (pe_lst (pa_cons pe_str (pa_cons (pe_callB (call_reprU hun hgd SM) (g_due _ (.tail _ (.head _))) B.repr (by decide +kernel) (pa_cons (pe_ix ix_list (pv 4) pe_int (fun _ _ => rfl)) pa_nil)) pa_nil))))) pss_nil)
      (pss_one (ps_ret (pe_lst pa_nil)))))))), ?_⟩
    have two : ∀ (k : Str) (d : PyData), dueA dp d2 d3 d4 dm = resD k d → [V.str k, V.str d.shown].length ≤ sizeLine ∧ ∀ p, H p = none → Q (.ref p) (upd H p (.lst [V.str k, V.str d.shown])) := fun k d e =>
      ⟨by show 2 ≤ sizeLine; decide, fun p hp => hQ p _ (Same.new hp) (by rw [e]; exact .lst (.inl upd_same) (.cons (.str _) (.cons (.str _) .nil)))⟩
    let r0 := (if scB d2 = false then resD "scale" d2 else if natB d3 = false then resD "number" d3 else if plB d4 = false then resD "places" d4 else dueO dm "number" (.list []))
    refine ⟨fun σ' H' => H' = H ∧ σ' = [some v1, some v2, some v3, some v4, some v5] ∧ dueA dp d2 d3 d4 dm = r0, ?_, ?_⟩
    · cases dp with
      | none =>
        cases (show v1 = .non from o1)
        exact ⟨_, rfl, rfl, _, rfl, iteF ⟨rfl, rfl, rfl⟩⟩
      | some d =>
        obtain ⟨b, y, rfl, hb, hy⟩ := (show ∃ (b : Addr) (y : V), v1 = .ref b ∧ H b = some (.lst [y]) ∧ Dv H y d from o1)
        refine ⟨_, rfl, rfl, _, rfl, iteT ⟨_, rfl, b, _, 0, _, rfl, rfl, .inl (.inl hb), rfl, y, d, 1, 3000, rfl, hy, _, rfl, ?_⟩⟩
        have gd := (g1 d rfl).good
        cases e : whB 1 3000 d with
        | false => exact iteT ⟨_, rfl, b, _, 0, _, rfl, rfl, .inl (.inl hb), rfl, y, d, rfl, hy, gd.1, gd.2.1, gd.2.2, two _ _ (if_pos e)⟩
        | true => exact iteF ⟨rfl, rfl, if_neg (by rw [e]; decide)⟩
    rintro _ H ⟨rfl, rfl, er⟩
    refine ⟨_, rfl, v2, d2, rfl, h2, _, rfl, ?_⟩
    cases e2 : scB d2 with
    | false => exact iteT ⟨_, rfl, v2, d2, rfl, h2, g2.good.1, g2.good.2.1, g2.good.2.2, two _ _ (er.trans (if_pos e2))⟩
    | true =>
    refine iteF ⟨_, rfl, v3, d3, rfl, h3, _, rfl, ?_⟩
    have er := er.trans (if_neg (by rw [e2]; decide))
    cases e3 : natB d3 with
    | false => exact iteT ⟨_, rfl, v3, d3, rfl, h3, g3.good.1, g3.good.2.1, g3.good.2.2, two _ _ (er.trans (if_pos e3))⟩
    | true =>
    refine iteF ⟨_, rfl, v4, d4, 0, 2, rfl, h4, _, rfl, ?_⟩
    have er := er.trans (if_neg (by rw [e3]; decide))
    rw [← pw]
    cases e4 : plB d4 with
    | false => exact iteT ⟨_, rfl, v4, d4, rfl, h4, g4.good.1, g4.good.2.1, g4.good.2.2, two _ _ (er.trans (if_pos e4))⟩
    | true =>
    refine iteF ?_
    have er := er.trans (if_neg (by rw [e4]; decide))
    have fin : dueA dp d2 d3 d4 dm = .list [] → ([] : List V).length ≤ sizeLine ∧ ∀ p, H p = none → Q (.ref p) (upd H p (.lst [])) := fun e => ⟨by show 0 ≤ sizeLine; decide, fun p hp => hQ p _ (Same.new hp) (by rw [e]; exact .lst (.inl upd_same) .nil)⟩
    cases dm with
    | none =>
      cases (show v5 = .non from o5)
      exact ⟨_, rfl, rfl, _, rfl, iteF (fin er)⟩
    | some d =>
      obtain ⟨b, y, rfl, hb, hy⟩ := (show ∃ (b : Addr) (y : V), v5 = .ref b ∧ H b = some (.lst [y]) ∧ Dv H y d from o5)
      refine ⟨_, rfl, rfl, _, rfl, iteT ⟨_, rfl, b, _, 0, _, rfl, rfl, .inl (.inl hb), rfl, y, d, 1, 3000, rfl, hy, _, rfl, ?_⟩⟩
      have gd := (g5 d rfl).good
      cases e : whB 1 3000 d with
      | false => exact iteT ⟨_, rfl, b, _, 0, _, rfl, rfl, .inl (.inl hb), rfl, y, d, rfl, hy, gd.1, gd.2.1, gd.2.2, two _ _ (er.trans (if_pos e))⟩
      | true => exact iteF (fin (er.trans (if_neg (by rw [e]; decide))))
end
end K41
namespace K41
open PySem PySem.Spec PyProof.Rows L2 Tc Evl
open LamX (tLam LamS lamCx lamEnv Tabs TabB ExtN)
theorem pe_wh (d : PyData) : peB (some 3000) d = whB 1 3000 d := by
  cases d <;> rfl
section
variable {K : PySem.W.Frag} {mg : Str → Option Value} {T : List (Addr × Str)} {CP CS CN CL : Addr} {σ : L2.St} {H : Hp} {w1 w2 w3 w4 w5 : V} {d1 d2 d3 d4 d5 : PyData} {Q : VK} {t : XK → TE}
/-- the four are unlike -/
theorem hx_ne (TH : Hx K mg CP CS CN CL) (nd : [CP, CS, CN, CL].Nodup) : CP ≠ CS ∧ CP ≠ CN ∧ CP ≠ CL ∧ CS ≠ CN ∧ CS ≠ CL ∧ CN ≠ CL := by
  simp only [List.nodup_cons, List.mem_cons, List.not_mem_nil, or_false, not_or, not_false_eq_true, List.nodup_nil, and_true] at nd
  exact ⟨nd.1.1, nd.1.2.1, nd.1.2.2, nd.2.1.1, nd.2.1.2, nd.2.2⟩
theorem raised {H1 : Hp} {C : Addr} {v : V} {d res : PyData} {k : Str} (hT : Tabs T H1) (hC : In4 CP CS CN CL C) (hk : kindOf CP CS CN C = k) (hv : Dv H1 v d) (g : Good d) (e : res = resD k d) (q : ∀ p H', Same H1 H' → Tabs T H' → Dv H' (.ref p) res → Q (.ref p) H') :
    up C v H1 (fun cls d H' => ∃ (C dd : Addr) (v : V) (dt : PyData), cls = .ref C ∧ In4 CP CS CN CL C ∧ d = some dd ∧ H' dd = some (.xd [("given", v)]) ∧ Dv H' v dt ∧ Good dt ∧ ∀ p H2, Same H' H2 → H2 p = some (.lst [.str (kindOf CP CS CN C), .str dt.shown]) → Q (.ref p) H2) := by
  intro dd hdd
  have s := Same.new (o := .xd [("given", v)]) hdd
  refine ⟨C, dd, v, d, rfl, hC, rfl, upd_same, hv.mono s, g, fun p H2 s2 h2 => q p H2 (s.trans s2) (hT.ext (s.trans s2)) ?_⟩
  rw [hk] at h2
  rw [e]
  exact .lst (.inl h2) (.cons (.str _) (.cons (.str _) .nil))
structure Kinds (CP CS CN CL : Addr) : Prop where
  p : kindOf CP CS CN CP = "people"
  s : kindOf CP CS CN CS = "scale"
  n : kindOf CP CS CN CN = "number"
  l : kindOf CP CS CN CL = "places"
theorem kinds_of (nd : [CP, CS, CN, CL].Nodup) : Kinds CP CS CN CL := by
  simp only [List.nodup_cons, List.mem_cons, List.not_mem_nil, or_false, not_or, not_false_eq_true, List.nodup_nil, and_true] at nd
  obtain ⟨⟨a, b, c⟩, ⟨d, e⟩, f⟩ := nd
  exact ⟨if_pos rfl, (if_neg (Ne.symm a)).trans (if_pos rfl), (if_neg (Ne.symm b)).trans ((if_neg (Ne.symm d)).trans (if_pos rfl)), (if_neg (Ne.symm c)).trans ((if_neg (Ne.symm e)).trans (if_neg (Ne.symm f)))⟩
theorem ended_tf (ht : ∀ E H' Q', spTF CP CS CN CL [w1, w2, w3, w4] H' Q' E → t E σ H' Q') (KD : Kinds CP CS CN CL) (h1 : Dv H w1 d1) (h2 : Dv H w2 d2) (h3 : Dv H w3 d3) (h4 : Dv H w4 d4) (v1 : Vl d1) (v2 : Vl d2) (v3 : Vl d3) (v4 : Vl d4)
    (no : dueA (some d1) d2 d3 d4 none ≠ .list []) (hT : Tabs T H) (q : ∀ p H', ExtN H H' → Tabs T H' → Dv H' (.ref p) (dueA (some d1) d2 d3 d4 none) → Q (.ref p) H') : tLam T (TTe CP CS CN CL) t σ H Q := by
  refine ⟨hT, fun H1 e1 t1 => ?_⟩
  have fin : ∀ p H', Same H1 H' → Tabs T H' → Dv H' (.ref p) (dueA (some d1) d2 d3 d4 none) → Q (.ref p) H' := fun p H' s t' h => q p H' (e1.trans (ExtN.of s)) t' h
  have u1 : peB (some 3000) d1 = true → dueA (some d1) d2 d3 d4 none = (if scB d2 = false then resD "scale" d2 else if natB d3 = false then resD "number" d3 else if plB d4 = false then resD "places" d4 else .list []) := fun e => by
    rw [pe_wh] at e
    exact if_neg (by rw [e]; decide)
  refine ht _ H1 _ ⟨w1, w2, w3, w4, d1, d2, d3, d4, rfl, ⟨h1.ext e1, h2.ext e1, h3.ext e1, h4.ext e1⟩, fun e => ?_, fun a1 e => ?_, fun a1 a2 e => ?_, fun a1 a2 a3 e => ?_, fun n lo hi m p z1 z2 z3 z4 y1 y2 y3 y4 y5 y6 y7 y8 => absurd ?_ no⟩
  · rw [pe_wh] at e
    exact raised t1 (.inl rfl) KD.p (h1.ext e1) v1.good (if_pos e) fin
  · exact raised t1 (.inr (.inl rfl)) KD.s (h2.ext e1) v2.good ((u1 a1).trans (if_pos e)) fin
  · exact raised t1 (.inr (.inr (.inl rfl))) KD.n (h3.ext e1) v3.good ((u1 a1).trans ((if_neg (by rw [a2]; decide)).trans (if_pos e))) fin
  · exact raised t1 (.inr (.inr (.inr rfl))) KD.l (h4.ext e1) v4.good ((u1 a1).trans ((if_neg (by rw [a2]; decide)).trans ((if_neg (by rw [a3]; decide)).trans (if_pos e)))) fin
  · subst z1 z2 z3 z4
    have p1 : peB (some 3000) (.int n) = true := by
      show (decide (1 ≤ n) && decide (n ≤ 3000)) = true
      rw [decide_eq_true y1, decide_eq_true y2] <;> rfl
    have p2 := sc_of y3 y4 y5
    have p3 : natB (.int m) = true := decide_eq_true y6
    have p4 : plB (.int p) = true := by
      show (decide (0 ≤ p) && decide (p < 3)) = true
      rw [decide_eq_true y7, decide_eq_true y8] <;> rfl
    exact (u1 p1).trans ((if_neg (by rw [p2]; decide)).trans ((if_neg (by rw [p3]; decide)).trans (if_neg (by rw [p4]; decide))))
theorem ended_pm (ht : ∀ E H' Q', spPM CS CN CL [w2, w3, w4, w5] H' Q' E → t E σ H' Q') (KD : Kinds CP CS CN CL) (h2 : Dv H w2 d2) (h3 : Dv H w3 d3) (h4 : Dv H w4 d4) (h5 : Dv H w5 d5) (v2 : Vl d2) (v3 : Vl d3) (v4 : Vl d4) (v5 : Vl d5)
    (no : dueA none d2 d3 d4 (some d5) ≠ .list []) (hT : Tabs T H) (q : ∀ p H', ExtN H H' → Tabs T H' → Dv H' (.ref p) (dueA none d2 d3 d4 (some d5)) → Q (.ref p) H') : tLam T (TTe CP CS CN CL) t σ H Q := by
  refine ⟨hT, fun H1 e1 t1 => ?_⟩
  have fin : ∀ p H', Same H1 H' → Tabs T H' → Dv H' (.ref p) (dueA none d2 d3 d4 (some d5)) → Q (.ref p) H' := fun p H' s t' h => q p H' (e1.trans (ExtN.of s)) t' h
  have u0 : dueA none d2 d3 d4 (some d5) = (if scB d2 = false then resD "scale" d2 else if natB d3 = false then resD "number" d3 else if plB d4 = false then resD "places" d4 else if whB 1 3000 d5 = false then resD "number" d5 else .list []) := rfl
  refine ht _ H1 _ ⟨w2, w3, w4, w5, d2, d3, d4, d5, rfl, ⟨h2.ext e1, h3.ext e1, h4.ext e1, h5.ext e1⟩, fun e => ?_, fun a2 e => ?_, fun a2 a3 e => ?_, fun a2 a3 a4 e => ?_, fun lo hi m p M z2 z3 z4 z5 y3 y4 y5 y6 y7 y8 y9 y10 => absurd ?_ no⟩
  · exact raised t1 (.inr (.inl rfl)) KD.s (h2.ext e1) v2.good (u0.trans (if_pos e)) fin
  · exact raised t1 (.inr (.inr (.inl rfl))) KD.n (h3.ext e1) v3.good (u0.trans ((if_neg (by rw [a2]; decide)).trans (if_pos e))) fin
  · exact raised t1 (.inr (.inr (.inr rfl))) KD.l (h4.ext e1) v4.good (u0.trans ((if_neg (by rw [a2]; decide)).trans ((if_neg (by rw [a3]; decide)).trans (if_pos e)))) fin
  · exact raised t1 (.inr (.inr (.inl rfl))) KD.n (h5.ext e1) v5.good (u0.trans ((if_neg (by rw [a2]; decide)).trans ((if_neg (by rw [a3]; decide)).trans ((if_neg (by rw [a4]; decide)).trans (if_pos e))))) fin
  · subst z2 z3 z4 z5
    have p2 := sc_of y3 y4 y5
    have p3 : natB (.int m) = true := decide_eq_true y6
    have p4 : plB (.int p) = true := by
      show (decide (0 ≤ p) && decide (p < 3)) = true
      rw [decide_eq_true y7, decide_eq_true y8] <;> rfl
    have p5 : whB 1 3000 (.int M) = true := by
      show (decide (1 ≤ M) && decide (M ≤ 3000)) = true
      rw [decide_eq_true y9, decide_eq_true y10] <;> rfl
    exact u0.trans ((if_neg (by rw [p2]; decide)).trans ((if_neg (by rw [p3]; decide)).trans ((if_neg (by rw [p4]; decide)).trans (if_neg (by rw [p5]; decide)))))
end
/-- mean, people, places, scale: people, scale, mean, places -/
def pmT {α : Type} : List α → List α
  | [m, n, p, s] => [n, s, m, p]
  | l => l
section
variable {P : Program} {w : World} {K : PySem.W.Frag} {mg : Str → Option Value} {base : Heap}
theorem sc_refused : FnScope ["_law_pail_here", "_law_people", "_law_scale", "_law_mean", "_law_places", "_law_most", "_law_some", "_law_turn", "_law_odd", "_law_due_here", "_law_five", "_law_four", "_law_one", "_law_three", "_law_two"] ["_law_pail_here", "_law_people", "_law_scale", "_law_mean", "_law_places", "_law_most"] (defScope s_refused) := ⟨rfl, rfl, rfl, by decide +kernel, rfl, by decide +kernel, by decide +kernel⟩
theorem g_refused : ∀ x ∈ (["range", "_law_sup", "_law_any", "_law_due", "_law_ended"] : List Str), (defScope s_refused).names.lookup x = some .globalImplicit := by decide +kernel
def spRef (T : List (Addr × Str)) : Sp := fun vs H Q _ => ∃ (a : Addr) (n m p lo hi : Int) (vsc : V), vs = [.ref a, .int n, vsc, .int m, .int p, .int 60] ∧ Pail H a ∧ Dv H vsc (.tuple [.int lo, .int hi]) ∧ (0 ≤ lo ∧ lo ≤ hi ∧ hi ≤ 6) ∧ (Vl (.int n) ∧ Vl (.int m) ∧ Vl (.int p)) ∧ Tabs T H ∧
  ∀ H' : Hp, Tabs T H' → Pail H' a → Kp a H H' → Q (.bl true) H'
theorem ok_refused {f c Pt g CP CS CN CL : Addr} {fd fdH : FuncData} {T : List (Addr × Str)} (F : Fun K "_law_refused_right" "_law_refused_right" s_refused f fd) (hcode : fd.code = .ref c) (B : Bl mg) (SM : ∃ o, K.lookup sysModules = some o)
    (FH : Fun K "_law_ended" "_law_ended" s_ended g fdH) (gH : mg "_law_ended" = some (.ref g)) (HX : Hx K mg CP CS CN CL) (TH' : Kinds CP CS CN CL) (TB : TabB base mg c Pt)
    (hmT : (Pt, (envOfC "_law_refused_right" (defScope s_refused) 0 f (.ref c)).qual ++ "<lambda>") ∈ T) (hu : ∀ p ∈ T, p.1 = Pt → p.2 = (envOfC "_law_refused_right" (defScope s_refused) 0 f (.ref c)).qual ++ "<lambda>")
    (DS : CallO P w K mg base CX0 1 "_law_sup" ["_law_pail_here", "_law_many"] spSup) (DA : CallO P w K mg base CX0 2 "_law_any" ["_law_pail_here", "_law_some"] spAny)
    (DD : Call P w K mg base CX0 3 "_law_due" ["_law_people", "_law_scale", "_law_mean", "_law_places", "_law_most"] spDue)
    (DTF : CallK P w K mg base (L2.CX P w) 5 "totals_for" ["people", "scale", "mean", "places"] (spTF CP CS CN CL) ["mean", "people", "places", "scale"] pmT)
    (DPM : CallO P w K mg base (L2.CX P w) 5 "people_for_mean" ["scale", "mean", "places", "most"] (spPM CS CN CL)) :
    FnG P w K mg base CX0 9 f fd ["_law_pail_here", "_law_people", "_law_scale", "_law_mean", "_law_places", "_law_most"] (spRef T) := by
  refine Fun.okGC F hcode sc_refused (fun vs H Q E h => ?_) (fun A outer s H vs Q E hr hgd h => ?_)
  · obtain ⟨a, n, m, p, lo, hi, vsc, rfl, _⟩ := h
    rfl
  · obtain ⟨a, n, m, p, lo, hi, vsc, rfl, hj, hsc, ⟨l0, l1, l2⟩, ⟨vn, vm, vp⟩, hT, hQ⟩ := h
    have hu8 : (A.deeper (envOfC "_law_refused_right" (defScope s_refused) s.heap.objs.size f (.ref c))).units + 64 < cLine := hr.units
    have lenT : ∀ us vs H Q E, spTF CP CS CN CL (pmT vs) H Q E → Vals vs us → us.length = 4 ∧ (pmT us).length = 4 := fun us vs H Q E h r => by
      obtain ⟨w1, w2, w3, w4, d1, d2, d3, d4, e, _⟩ := h
      have z : ∀ (l : List V), pmT l = [w1, w2, w3, w4] → l.length = 4 := fun l e => by
        unfold pmT at e
        split at e
        · rfl
        · rw [e] <;> rfl
      have y : ∀ (l : List Value), l.length = 4 → (pmT l).length = 4 := fun l h => match l, h with | [_, _, _, _], _ => rfl
      have x := r.length.symm.trans (z vs e)
      exact ⟨x, y us x⟩
    refine ⟨_, (pss_mid (ps_set (i := 6) sc_refused.nd rfl (.inl rfl) (pe_lst (pa_cons (pv 1) (pa_cons (pv 2) (pa_cons (pv 3) (pa_cons (pv 4) (pa_cons (pv 5) pa_nil)))))))
      (pss_mid (ps_for PassesOwn.leaving rfl (pi_range1 (g_refused _ (.head _)) B.range (pa_cons (pe_op op_add pe_int (pe_doO DS (hr.mono (by decide)) (g_refused _ (.tail _ (.head _))) pass0 (pa_cons (pv 0) (pa_cons pe_int pa_nil)))) pa_nil)) (pg_name (i := 7) sc_refused.nd rfl (.inl rfl)) (pss_mid (ps_set (i := 8) sc_refused.nd rfl (.inl rfl) (pe_lst (pa_cons pe_int (pa_cons (pe_un un_neg pe_int) (pa_cons pe_int (pa_cons pe_bl (pa_cons pe_non (pa_cons pe_str (pa_cons (pe_tup (pa_cons pe_int pa_nil)) (pa_cons (pe_tup (pa_cons pe_int (pa_cons pe_int pa_nil))) (pa_cons (pe_tup (pa_cons pe_int (pa_cons pe_int pa_nil))) (pa_cons (pe_lst (pa_cons pe_int (pa_cons pe_int pa_nil))) (pa_cons (pe_tup (pa_cons pe_bl (pa_cons pe_int pa_nil))) (pa_cons pe_int pa_nil)))))))))))))) (pss_one (ps_asg (pe_doO DA (hr.mono (by decide)) (g_refused _ (.tail _ (.tail _ (.head _)))) pass0 (pa_cons (pv 0) (pa_cons (pv 8) pa_nil))) (pg_sub (pv 6) (pe_doO DS (hr.mono (by decide)) (g_refused _ (.tail _ (.head _))) pass0 (pa_cons (pv 0) (pa_cons pe_int pa_nil))) set_list)))))
      (pss_mid (ps_asg (pv 6) (pg_unl (by rfl) (pgs_cons (pg_name (i := 12) sc_refused.nd rfl (.inr rfl)) (pgs_cons (pg_name (i := 14) sc_refused.nd rfl (.inr rfl)) (pgs_cons (pg_name (i := 13) sc_refused.nd rfl (.inr rfl)) (pgs_cons (pg_name (i := 11) sc_refused.nd rfl (.inr rfl)) (pgs_cons (pg_name (i := 10) sc_refused.nd rfl (.inr rfl)) pgs_nil)))))))
      (pss_mid (ps_set (i := 9) sc_refused.nd rfl (.inl rfl) (pe_do DD (hr.mono (by decide)) hgd (g_refused _ (.tail _ (.tail _ (.tail _ (.head _))))) pass0 (pa_cons (pe_lst (pa_cons (pv 12) pa_nil)) (pa_cons (pv 14) (pa_cons (pv 13) (pa_cons (pv 11) (pa_cons pe_non pa_nil)))))))
      (pss_mid (ps_if (PW.pt (pw_and (pt_cmpR (op_neD hu8) (pv 9) (pe_lst pa_nil) (nomark _)) (pw_and1 (pt_cmpR (op_neD hu8) (pe_ended (k := 6) (t := fun E2 => tCallK (spTF CP CS CN CL) pmT E2 (tCons (tVar 13) (tCons (tVar 12) (tCons (tVar 11) (tCons (tVar 14) tNil))))) FH gH HX hgd SM (g_refused _ (.tail _ (.tail _ (.tail _ (.tail _ (.head _)))))) TB rfl hmT hu (hr.mono (by decide)) (LamX.lamS_by (sc := defScope s_refused) (by decide +kernel)) rfl (fun _ _ _ _ _ => rfl) (fun A2 outer2 s2 H2 E2 f2 c2 hr2 => pe_doK DTF (hr2.mono (by decide)) (by rfl) (passes_call (takes_of rfl rfl rfl rfl) fun _ _ _ _ h => h) (pk_cons (pv 13) (pk_cons (pv 12) (pk_cons (pv 11) (pk_cons (pv 14) pk_nil)))) (hlen := lenT))) (pv 9) (nomark _))))) (pss_one (ps_ret pe_bl)) pss_nil)
      (pss_mid (ps_set (i := 9) sc_refused.nd rfl (.inl rfl) (pe_do DD (hr.mono (by decide)) hgd (g_refused _ (.tail _ (.tail _ (.tail _ (.head _))))) pass0 (pa_cons pe_non (pa_cons (pv 14) (pa_cons (pv 13) (pa_cons (pv 11) (pa_cons (pe_lst (pa_cons (pv 10) pa_nil)) pa_nil)))))))
      (pss_one (ps_ret (pe_or (pe_cmpR (op_eqD hu8) (pv 9) (pe_lst pa_nil) (nomark _)) (pe_one (pe_cmpR (op_eqD hu8) (pe_ended (k := 6) (t := fun E2 => tCall (spPM CS CN CL) [] E2 (tCons (tVar 14) (tCons (tVar 13) (tCons (tVar 11) (tCons (tVar 10) tNil))))) FH gH HX hgd SM (g_refused _ (.tail _ (.tail _ (.tail _ (.tail _ (.head _)))))) TB rfl hmT hu (hr.mono (by decide)) (LamX.lamS_by (sc := defScope s_refused) (by decide +kernel)) rfl (fun _ _ _ _ _ => rfl) (fun A2 outer2 s2 H2 E2 f2 c2 hr2 => pe_doO DPM (hr2.mono (by decide)) (by rfl) (passes_call (takes_of rfl rfl rfl rfl) fun _ _ _ _ h => h) (pa_cons (pv 14) (pa_cons (pv 13) (pa_cons (pv 11) (pa_cons (pv 10) pa_nil)))))) (pv 9) (nomark _)))))))))))), ?_⟩
    -- the five values
    obtain ⟨o0, ho0⟩ := pail_some hj
    refine ⟨fun σ' H' => ∃ S, σ' = [some (.ref a), some (.int n), some vsc, some (.int m), some (.int p), some (.int 60), some (.ref S), none, none, none, none, none, none, none, none] ∧ H S = none ∧ Same H H' ∧ H' S = some (.lst [.int n, vsc, .int m, .int p, .int 60]), ?_, ?_⟩
    · exact ⟨_, rfl, _, rfl, _, rfl, _, rfl, _, rfl, by show 5 ≤ sizeLine; decide, fun S hS => ⟨S, rfl, hS, Same.new hS, upd_same⟩⟩
    rintro _ H1 ⟨S, rfl, hS0, s1, hS1⟩
    have Sa : S ≠ a := fun z => by
      rw [z, ho0] at hS0
      cases hS0
    have hscS : ∀ H', Same H H' → Dv (hid a S H') vsc (.tuple [.int lo, .int hi]) := fun H' sm => by
      obtain ⟨t, xs, rfl, ht, hx⟩ := hsc.isT
      have ta : t ≠ a := fun z => by
        obtain ⟨m', o', e, _⟩ := hj
        rcases ht with ht | ⟨o, ht⟩ <;> rw [z, e] at ht <;> cases ht
      have tS : t ≠ S := fun z => by
        rcases ht with ht | ⟨o, ht⟩ <;> rw [z, hS0] at ht <;> cases ht
      cases hx with
      | cons e1 er =>
      cases er with
      | cons e2 er2 =>
      cases er2
      cases e1
      cases e2
      refine .tup ?_ (.cons (.int _) (.cons (.int _) .nil))
      exact ht.elim (fun z => .inl (hid_of (sm _ _ z) ta tS)) (fun ⟨o, z⟩ => .inr ⟨o, hid_of (sm _ _ z) ta tS⟩)
    -- odd ones
    refine ⟨fun σ' H' => (Tabs T H' ∧ Pail H' a ∧ Kp a H H') ∧ ∃ (ws : List V) (x7 x8 : Option V), σ' = [some (.ref a), some (.int n), some vsc, some (.int m), some (.int p), some (.int 60), some (.ref S), x7, x8, none, none, none, none, none, none] ∧ H' S = some (.lst ws) ∧ ws.length = 5 ∧ (∀ (i : Nat) (w : V), ws[i]? = some w → ∃ d, Dv (hid a S H') w d ∧ Vl d), ?_, ?_⟩
    · refine ⟨_, rfl, a, 2, rfl, pail_same hj s1, by decide, by decide, fun r H2 r0 r2 j2 b2 => ⟨_, _, rfl, rfl, ?_⟩⟩
      have hS2 := b2 _ _ hS1 Sa
      refine ⟨1 + r, rfl, by omega, by omega, for_range (lo := 0) (n := (1 + r).toNat) (fun _ σ' H' => (Tabs T H' ∧ Pail H' a ∧ Kp a H H') ∧ ∃ (ws : List V) (x7 x8 : Option V), σ' = [some (.ref a), some (.int n), some vsc, some (.int m), some (.int p), some (.int 60), some (.ref S), x7, x8, none, none, none, none, none, none] ∧ H' S = some (.lst ws) ∧ ws.length = 5 ∧ (∀ (i : Nat) (w : V), ws[i]? = some w → ∃ d, Dv (hid a S H') w d ∧ Vl d))
        ⟨⟨tabs_but (hT.ext s1) (pail_same hj s1) b2, j2, ((Kp.refl a H).same s1).but b2⟩, _, none, none, rfl, hS2, rfl, ?_⟩ ?_ (fun σ' H' z => z)⟩
      · intro i w hw
        match i, hw with
        | 0, hw => cases hw; exact ⟨_, .int _, vn⟩
        | 1, hw => cases hw; exact ⟨_, (hscS _ s1).mono (hid_bt (Bt2.of b2)), vl_sc l0 (by omega) (by omega) (by omega)⟩
        | 2, hw => cases hw; exact ⟨_, .int _, vm⟩
        | 3, hw => cases hw; exact ⟨_, .int _, vp⟩
        | 4, hw => cases hw; exact ⟨_, .int _, vl_int (by decide) (by decide)⟩
      rintro i _ H3 hi' ⟨⟨t3, j3, k3⟩, ws, x7, x8, rfl, hS3, len, all⟩
      obtain ⟨o3, ho3⟩ := pail_some j3
      -- a menu
      refine ⟨fun σ' H' => (Tabs T H' ∧ Pail H' a ∧ Kp a H H') ∧ ∃ (M : Addr) (os : List V), σ' = [some (.ref a), some (.int n), some vsc, some (.int m), some (.int p), some (.int 60), some (.ref S), some (.int (0 + (i : Int))), some (.ref M), none, none, none, none, none, none] ∧ M ≠ a ∧ H' M = some (.lst os) ∧ 0 < os.length ∧ os.length ≤ 1000 ∧ H' S = some (.lst ws) ∧ (∀ v ∈ os, ∃ d, Dv (hid a S H') v d ∧ Vl d) ∧ (∀ (i : Nat) (w : V), ws[i]? = some w → ∃ d, Dv (hid a S H') w d ∧ Vl d), ?_, ?_⟩
      · refine ⟨_, rfl, by show 1 ≤ sizeLine; decide, fun q1 hq1 => ⟨by show 2 ≤ sizeLine; decide, fun q2 hq2 => ⟨by show 2 ≤ sizeLine; decide, fun q3 hq3 => ⟨by show 2 ≤ sizeLine; decide, fun q4 hq4 => ⟨by show 2 ≤ sizeLine; decide, fun q5 hq5 => ⟨by show 12 ≤ sizeLine; decide, fun M hM => ?_⟩⟩⟩⟩⟩⟩
        have n1 := Same.new (o := .tup [V.int 1]) hq1
        have n2 := Same.new (o := .tup [V.int 2, V.int 1]) hq2
        have n3 := Same.new (o := .tup [V.int 0, V.int 7]) hq3
        have n4 := Same.new (o := .lst [V.int 0, V.int 4]) hq4
        have n5 := Same.new (o := .tup [V.bl true, V.int 3]) hq5
        have nM := Same.new (o := .lst [V.int 0, V.int (-1), V.int 3001, V.bl true, V.non, V.str "1", V.ref q1, V.ref q2, V.ref q3, V.ref q4, V.ref q5, V.int 3]) hM
        have f5 := nM
        have f4 := n5.trans f5
        have f3 := n4.trans f4
        have f2 := n3.trans f3
        have f1 := n2.trans f2
        have f0 := n1.trans f1
        have away : ∀ {H' : Hp} {q : Addr}, Same H3 H' → H' q = none → q ≠ a ∧ q ≠ S := fun s h => ⟨(ne_of_none (s _ _ ho3) h).symm, (ne_of_none (s _ _ hS3) h).symm⟩
        have w1 := away (Same.refl _) hq1
        have w2 := away n1 hq2
        have w3 := away (n1.trans n2) hq3
        have w4 := away (n1.trans (n2.trans n3)) hq4
        have w5 := away (n1.trans (n2.trans (n3.trans n4))) hq5
        have wM := away (n1.trans (n2.trans (n3.trans (n4.trans n5)))) hM
        refine ⟨⟨t3.ext f0, pail_same j3 f0, k3.same f0⟩, M, _, rfl, wM.1, upd_same, by show 0 < 12; decide, by show 12 ≤ 1000; decide, f0 _ _ hS3, fun v hv => ?_, fun i w hw => ?_⟩
        · simp only [List.mem_cons, List.not_mem_nil, or_false] at hv
          rcases hv with rfl | rfl | rfl | rfl | rfl | rfl | rfl | rfl | rfl | rfl | rfl | rfl
          · exact ⟨_, .int _, vl_int (by decide) (by decide)⟩
          · exact ⟨_, .int _, vl_neg⟩
          · exact ⟨_, .int _, vl_int (by decide) (by decide)⟩
          · exact ⟨_, .bl _, vl_bl _⟩
          · exact ⟨_, .non, vl_none⟩
          · exact ⟨_, .str _, vl_one⟩
          · exact ⟨_, .tup (.inl (hid_of (f1 _ _ upd_same) w1.1 w1.2)) (.cons (.int _) .nil), vl_tup⟩
          · exact ⟨_, .tup (.inl (hid_of (f2 _ _ upd_same) w2.1 w2.2)) (.cons (.int _) (.cons (.int _) .nil)), vl_21⟩
          · exact ⟨_, .tup (.inl (hid_of (f3 _ _ upd_same) w3.1 w3.2)) (.cons (.int _) (.cons (.int _) .nil)), vl_sc (by decide) (by decide) (by decide) (by decide)⟩
          · exact ⟨_, .lst (.inl (hid_of (f4 _ _ upd_same) w4.1 w4.2)) (.cons (.int _) (.cons (.int _) .nil)), vl_l04⟩
          · exact ⟨_, .tup (.inl (hid_of (f5 _ _ upd_same) w5.1 w5.2)) (.cons (.bl _) (.cons (.int _) .nil)), vl_t3⟩
          · exact ⟨_, .int _, vl_int (by decide) (by decide)⟩
        · obtain ⟨d, hd, vd⟩ := all i w hw
          exact ⟨d, hd.mono (hid_bt (Bt2.same f0)), vd⟩
      rintro _ H4 ⟨⟨t4, j4, k4⟩, M, os, rfl, Ma, hM, os0, os1, hS4, allo, all4⟩
      refine ⟨_, rfl, _, rfl, a, M, os, rfl, j4, hM, Ma, os0, os1, fun o H5 ho j5 b5 => ?_⟩
      obtain ⟨d, hd, vd⟩ := allo o ho
      have hS5 := b5 _ _ hS4 Sa
      refine ⟨_, rfl, _, rfl, a, 5, rfl, j5, by decide, by decide, fun r H6 r0 r4 j6 b6 => ?_⟩
      have hS6 := b6 _ _ hS5 Sa
      have jx : ixN ws.length r = some r.toNat := by
        rw [len]
        have : r = 0 ∨ r = 1 ∨ r = 2 ∨ r = 3 ∨ r = 4 := by omega
        rcases this with rfl | rfl | rfl | rfl | rfl <;> rfl
      refine ⟨S, ws, r, r.toNat, rfl, rfl, hS6, jx, ?_⟩
      have b6S : Bt2 a S H4 (upd H6 S (.lst (ws.set r.toNat o))) := fun c o h n m => by
        rw [upd_ne m]
        exact b6 c o (b5 c o h n) n
      have kk : ∀ b o', H6 b = some o' → b ≠ S → upd H6 S (.lst (ws.set r.toNat o)) b = some o' := fun b o' z n => (upd_ne n).trans z
      have t6 := tabs_but (tabs_but t4 j4 b5) j5 b6
      have k6 := (k4.but b5).but b6
      refine ⟨⟨tabs_keep t6 hS6 kk, ?_, fun b o' e n z => kk _ _ (k6 b o' e n z) (fun zb => by rw [zb, hS0] at e; cases e)⟩, _, _, _, rfl, upd_same, by rw [List.length_set]; exact len, fun i w hw => ?_⟩
      · obtain ⟨m', o', e, r'⟩ := j6
        exact ⟨m', o', kk _ _ e Sa.symm, r'⟩
      · rw [List.getElem?_set] at hw
        split at hw
        · split at hw
          · cases hw
            exact ⟨d, hd.mono (hid_bt b6S), vd⟩
          · cases hw
        · obtain ⟨d', hd', vd'⟩ := all4 i w hw
          exact ⟨d', hd'.mono (hid_bt b6S), vd'⟩
    rintro _ H2 ⟨⟨t2, j2, k2⟩, ws, x7, x8, rfl, hS2, len, all⟩
    obtain ⟨w1, w2, w3, w4, w5, rfl⟩ : ∃ w1 w2 w3 w4 w5, ws = [w1, w2, w3, w4, w5] := match ws, len with | [w1, w2, w3, w4, w5], _ => ⟨w1, w2, w3, w4, w5, rfl⟩
    obtain ⟨d1, hd1, v1⟩ := all 0 w1 rfl
    obtain ⟨d2, hd2, v2⟩ := all 1 w2 rfl
    obtain ⟨d3, hd3, v3⟩ := all 2 w3 rfl
    obtain ⟨d4, hd4, v4⟩ := all 3 w4 rfl
    obtain ⟨d5, hd5, v5⟩ := all 4 w5 rfl
    have h1 := hd1.mono (hid_in a S H2)
    have h2 := hd2.mono (hid_in a S H2)
    have h3 := hd3.mono (hid_in a S H2)
    have h4 := hd4.mono (hid_in a S H2)
    have h5 := hd5.mono (hid_in a S H2)
    -- one, two, three, four, five
    refine ⟨fun σ' H' => H' = H2 ∧ σ' = [some (.ref a), some (.int n), some vsc, some (.int m), some (.int p), some (.int 60), some (.ref S), x7, x8, none, some w5, some w4, some w1, some w3, some w2], ⟨_, rfl, S, _, rfl, .inl (.inl hS2), rfl, _, _, rfl, _, _, rfl, _, _, rfl, _, _, rfl, _, _, rfl, rfl, rfl, rfl⟩, ?_⟩
    rintro _ H2 ⟨rfl, rfl⟩
    have o1 : ∀ d, VlO (some d) ↔ Vl d := fun d => ⟨fun h => h d rfl, fun h e z => by cases z; exact h⟩
    have on : VlO none := fun d z => nomatch z
    -- due of the totals
    refine ⟨fun σ' H' => ∃ q, σ' = [some (.ref a), some (.int n), some vsc, some (.int m), some (.int p), some (.int 60), some (.ref S), x7, x8, some (.ref q), some w5, some w4, some w1, some w3, some w2] ∧ Same H2 H' ∧ Dv H' (.ref q) (dueA (some d1) d2 d3 d4 none), ?_, ?_⟩
    · refine ⟨_, rfl, by show 1 ≤ sizeLine; decide, fun b hb => ?_⟩
      have nb := Same.new (o := .lst [w1]) hb
      exact ⟨_, rfl, _, rfl, _, rfl, .ref b, w2, w3, w4, .non, some d1, none, d2, d3, d4, rfl, ⟨⟨b, w1, rfl, upd_same, h1.mono nb⟩, h2.mono nb, h3.mono nb, h4.mono nb, rfl⟩, ⟨(o1 d1).mpr v1, v2, v3, v4, on⟩, fun q H' s hq => ⟨q, rfl, nb.trans s, hq⟩⟩
    rintro _ H3 ⟨q, rfl, s3, hq⟩
    have ok := dueA_ok ((o1 d1).mpr v1) v2 v3 v4 on
    have t3 := t2.ext s3
    refine ⟨fun σ' H' => Tabs T H' ∧ ExtN H2 H' ∧ σ' = [some (.ref a), some (.int n), some vsc, some (.int m), some (.int p), some (.int 60), some (.ref S), x7, x8, some (.ref q), some w5, some w4, some w1, some w3, some w2], ?_, ?_⟩
    · refine ⟨_, rfl, by show 0 ≤ sizeLine; decide, fun e he => ?_⟩
      have ne := Same.new (o := .lst []) he
      refine ⟨_, .list [], ok.dp (hq.mono ne), .lst (.inl (.inl upd_same)) .nil, ok.shaped, by decide, _, rfl, ?_⟩
      have x23 : ExtN H2 (upd H3 e (.lst [])) := (ExtN.of s3).trans (ExtN.of ne)
      rcases ok.nil with ⟨_, ev⟩ | ⟨no, ev⟩
      · rw [ev]
        exact iteF ⟨t3.ext ne, x23, rfl⟩
      · rw [ev]
        refine iteT (ended_tf (fun E H' Q' h => ⟨_, rfl, _, rfl, _, rfl, _, rfl, h⟩) TH' (h1.ext x23) (h2.ext x23) (h3.ext x23) (h4.ext x23) v1 v2 v3 v4 no (t3.ext ne) fun r H' x t' hr' => ?_)
        refine ⟨_, rfl, _, _, ok.dp hr', ok.dp ((hq.mono ne).ext x), ok.shaped, ok.shaped, _, rfl, ?_⟩
        rw [ok.self]
        exact iteF ⟨t', x23.trans x, rfl⟩
    rintro _ H4 ⟨t4, x4, rfl⟩
    -- due of the people
    refine ⟨fun σ' H' => ∃ q, σ' = [some (.ref a), some (.int n), some vsc, some (.int m), some (.int p), some (.int 60), some (.ref S), x7, x8, some (.ref q), some w5, some w4, some w1, some w3, some w2] ∧ Same H4 H' ∧ Dv H' (.ref q) (dueA none d2 d3 d4 (some d5)), ?_, ?_⟩
    · refine ⟨_, rfl, _, rfl, _, rfl, _, rfl, by show 1 ≤ sizeLine; decide, fun b hb => ?_⟩
      have nb := Same.new (o := .lst [w5]) hb
      have y := fun {v d} (h : Dv H2 v d) => (h.ext x4).mono nb
      exact ⟨.non, w2, w3, w4, .ref b, none, some d5, d2, d3, d4, rfl, ⟨rfl, y h2, y h3, y h4, ⟨b, w5, rfl, upd_same, y h5⟩⟩, ⟨on, v2, v3, v4, (o1 d5).mpr v5⟩, fun q H' s hq => ⟨q, rfl, nb.trans s, hq⟩⟩
    rintro _ H5 ⟨q5, rfl, s5, hq5⟩
    have ok5 := dueA_ok on v2 v3 v4 ((o1 d5).mpr v5)
    have t5 := t4.ext s5
    have x5 : ExtN H2 H5 := x4.trans (ExtN.of s5)
    have fin : ∀ H', ExtN H2 H' → Tabs T H' → Q (.bl true) H' := fun H' x t' => hQ H' t' (pail_ext j2 x) (k2.ext x)
    refine ⟨_, rfl, by show 0 ≤ sizeLine; decide, fun e he => ?_⟩
    have ne := Same.new (o := .lst []) he
    refine ⟨_, .list [], ok5.dp (hq5.mono ne), .lst (.inl (.inl upd_same)) .nil, ok5.shaped, by decide, _, rfl, ?_⟩
    have x6' : ExtN H2 (upd H5 e (.lst [])) := x5.trans (ExtN.of ne)
    rcases ok5.nil with ⟨_, ev⟩ | ⟨no, ev⟩
    · rw [ev]
      exact iteT (fin _ x6' (t5.ext ne))
    · rw [ev]
      refine iteF (ended_pm (fun E H' Q' h => ⟨_, rfl, _, rfl, _, rfl, _, rfl, h⟩) TH' (h2.ext x6') (h3.ext x6') (h4.ext x6') (h5.ext x6') v2 v3 v4 v5 no (t5.ext ne) fun r H' x t' hr' => ?_)
      refine ⟨_, rfl, _, _, ok5.dp hr', ok5.dp ((hq5.mono ne).ext x), ok5.shaped, ok5.shaped, ?_⟩
      rw [ok5.self]
      exact fin _ (x6'.trans x) t'
end
end K41
namespace K41
open PySem PySem.Spec PyProof.Rows L2 Tc Evl
theorem pl_no {p : Int} (p0 : 0 ≤ p) (p1 : p < 3) : ¬ plB (.int p) = false := fun e => by
  have z : (decide (0 ≤ p) && decide (p < 3)) = false := e
  rw [decide_eq_true p0, decide_eq_true p1] at z
  cases z
theorem wh_no {M : Int} (p0 : 1 ≤ M) (p1 : M ≤ 3000) : ¬ whB 1 3000 (.int M) = false := fun e => by
  have z : (decide (1 ≤ M) && decide (M ≤ 3000)) = false := e
  rw [decide_eq_true p0, decide_eq_true p1] at z
  cases z
theorem pe_no {M : Int} (p0 : 1 ≤ M) (p1 : M ≤ 3000) : ¬ peB (some 3000) (.int M) = false := fun e => wh_no p0 p1 (by rw [← pe_wh]; exact e)
theorem dp_ints {K : PySem.W.Frag} {H : Hp} : ∀ l : List Int, DpAll K H (l.map V.int) (l.map PyData.int)
  | [] => .nil
  | i :: l => .cons (.int i) (dp_ints l)
theorem lay_ints : ∀ l : List Int, PyData.canLayAll0 (l.map PyData.int) = true
  | [] => rfl
  | i :: l => by
    show (true && PyData.canLayAll0 (l.map PyData.int)) = true
    rw [lay_ints l] <;> rfl
theorem depth_ints : ∀ l : List Int, PyData.depthAll (l.map PyData.int) = 0
  | [] => rfl
  | i :: l => by
    show max 0 (PyData.depthAll (l.map PyData.int)) = 0
    rw [depth_ints l] <;> rfl
theorem eqv_ints : ∀ l : List Int, PyData.eqvAll (l.map PyData.int) (l.map PyData.int) = true
  | [] => rfl
  | i :: l => by
    show ((i == i) && PyData.eqvAll (l.map PyData.int) (l.map PyData.int)) = true
    rw [eqv_ints l]
    simp
theorem shaped_tup (l : List Int) : SeqAt.shaped (.tuple (l.map PyData.int)) = true := by
  show (PyData.canLayAll0 (l.map PyData.int) && decide (PyData.depthAll (l.map PyData.int) + 1 ≤ 64)) = true
  rw [lay_ints l, depth_ints] <;> rfl
theorem shaped_lst (l : List Int) : SeqAt.shaped (.list (l.map PyData.int)) = true := by
  show (PyData.canLayAll0 (l.map PyData.int) && decide (PyData.depthAll (l.map PyData.int) + 1 ≤ 64)) = true
  rw [lay_ints l, depth_ints] <;> rfl
/-- two tuples of the same ints -/
theorem ne_tup {K : PySem.W.Frag} {H : Hp} {a b : Addr} {l : List Int} {Q : VK} (ha : H a = some (.tup (l.map V.int))) (hb : H b = some (.tup (l.map V.int))) (q : Q (.bl false) H) : rNeD K (.ref a) (.ref b) H Q := by
  refine ⟨.tuple (l.map PyData.int), .tuple (l.map PyData.int), .tup (.inl (.inl ha)) (dp_ints l), .tup (.inl (.inl hb)) (dp_ints l), shaped_tup l, shaped_tup l, ?_⟩
  have e : PyData.eqv (.tuple (l.map PyData.int)) (.tuple (l.map PyData.int)) = true := eqv_ints l
  rw [e]
  exact q
theorem eq_tup {K : PySem.W.Frag} {H : Hp} {a b : Addr} {l : List Int} {Q : VK} (ha : H a = some (.tup (l.map V.int))) (hb : H b = some (.tup (l.map V.int))) (q : Q (.bl true) H) : rEqD K (.ref a) (.ref b) H Q := by
  refine ⟨.tuple (l.map PyData.int), .tuple (l.map PyData.int), .tup (.inl (.inl ha)) (dp_ints l), .tup (.inl (.inl hb)) (dp_ints l), shaped_tup l, shaped_tup l, ?_⟩
  have e : PyData.eqv (.tuple (l.map PyData.int)) (.tuple (l.map PyData.int)) = true := eqv_ints l
  rw [e]
  exact q
theorem ne_lst {K : PySem.W.Frag} {H : Hp} {a b : Addr} {l : List Int} {Q : VK} (ha : H a = some (.lst (l.map V.int))) (hb : H b = some (.lst (l.map V.int))) (q : Q (.bl false) H) : rNeD K (.ref a) (.ref b) H Q := by
  refine ⟨.list (l.map PyData.int), .list (l.map PyData.int), .lst (.inl (.inl ha)) (dp_ints l), .lst (.inl (.inl hb)) (dp_ints l), shaped_lst l, shaped_lst l, ?_⟩
  have e : PyData.eqv (.list (l.map PyData.int)) (.list (l.map PyData.int)) = true := eqv_ints l
  rw [e]
  exact q
theorem okL {lo hi m p : Int} : (fun n : Int => decide (loA n lo m p ≤ enH n hi m p)) = okP lo hi m p := by
  funext n
  unfold okP
  rw [← enH_eq]
  exact decide_eq_decide.mpr (by omega)
section
variable {P : Program} {w : World} {K : PySem.W.Frag} {mg : Str → Option Value} {base : Heap}
theorem sc_people_right : FnScope ["_law_scale", "_law_mean", "_law_places", "_law_most", "_law_due_here", "_law_people", "_law_low", "_law_high"] ["_law_scale", "_law_mean", "_law_places", "_law_most"] (defScope s_people_right) := ⟨rfl, rfl, rfl, by decide +kernel, rfl, by decide +kernel, by decide +kernel⟩
theorem g_people_right : ∀ x ∈ (["range", "_law_ends", "people_for_mean", "tuple"] : List Str), (defScope s_people_right).names.lookup x = some .globalImplicit := by decide +kernel
def spPR : Sp := fun vs H Q _ => ∃ (v : V) (m p M lo hi : Int), vs = [v, .int m, .int p, .int M] ∧ Dv H v (.tuple [.int lo, .int hi]) ∧ (0 ≤ lo ∧ lo ≤ hi ∧ hi ≤ 6) ∧ (0 ≤ m ∧ m ≤ 1000) ∧ (0 ≤ p ∧ p < 3) ∧ (1 ≤ M ∧ M ≤ 3000) ∧ ∀ H', Same H H' → Q (.bl true) H'
theorem ok_people_right {f CS CN CL : Addr} {fd : FuncData} (F : Fun K "_law_people_right" "_law_people_right" s_people_right f fd) (B : Bl mg)
    (DE : CallO P w K mg base CX0 1 "_law_ends" ["_law_people", "_law_scale", "_law_mean", "_law_places"] spEn) (DPM : CallO P w K mg base (L2.CX P w) 5 "people_for_mean" ["scale", "mean", "places", "most"] (spPM CS CN CL))
    (DPMK : CallK P w K mg base (L2.CX P w) 5 "people_for_mean" ["scale", "mean", "places", "most"] (spPM CS CN CL) ["most", "places", "mean", "scale"] List.reverse) :
    FnOk P w K mg base CX0 6 f fd ["_law_scale", "_law_mean", "_law_places", "_law_most"] spPR := by
  refine F.ok sc_people_right (fun vs H Q E h => ?_) (fun cdv A outer s H vs Q E hr h => ?_)
  · obtain ⟨v, m, p, M, lo, hi, rfl, _⟩ := h
    rfl
  · obtain ⟨v, m, p, M, lo, hi, rfl, hd, ⟨l0, l1, l2⟩, ⟨m0, m1⟩, ⟨p0, p1⟩, ⟨c1, c2⟩, hQ⟩ := h
    have hu8 : (A.deeper (envOfC "_law_people_right" (defScope s_people_right) s.heap.objs.size f cdv)).units + 64 < cLine := hr.units
    have lenP : ∀ us vs H Q E, spPM CS CN CL (List.reverse vs) H Q E → Vals vs us → us.length = 4 ∧ (List.reverse us).length = 4 := fun us vs H Q E h r => by
      obtain ⟨w1, w2, w3, w4, d1, d2, d3, d4, e, _⟩ := h
      have z : vs.length = 4 := by rw [← List.length_reverse, e] <;> rfl
      exact ⟨r.length.symm.trans z, by rw [List.length_reverse]; exact r.length.symm.trans z⟩
    refine ⟨_, (pss_cons (ps_set (i := 4) sc_people_right.nd rfl (.inl rfl) (pe_lst pa_nil))
      (pss_mid (ps_for PassesOwn.never rfl (pi_range2 (g_people_right _ (.head _)) B.range (pa_cons pe_int (pa_cons (pe_op op_add (pv 3) pe_int) pa_nil))) (pg_name (i := 5) sc_people_right.nd rfl (.inl rfl))
        (pss_cons (ps_asg (pe_doO DE (hr.mono (by decide)) (g_people_right _ (.tail _ (.head _))) pass0 (pa_cons (pv 5) (pa_cons (pv 0) (pa_cons (pv 1) (pa_cons (pv 2) pa_nil))))) (pg_tup (by rfl) (pgs_cons (pg_name (i := 6) sc_people_right.nd rfl (.inl rfl)) (pgs_cons (pg_name (i := 7) sc_people_right.nd rfl (.inl rfl)) pgs_nil))))
        (pss_one (ps_if (pt_cmpR op_le (pv 6) (pv 7) (nomark _)) (pss_one (ps_expr (pe_bm PySem.F.plainAttrs_list PySem.F.slot_list_append PySem.F.type_list_append mt_append (pv 4) (pa_cons (pv 5) pa_nil)))) pss_nil))))
      (pss_mid (ps_if (pt_cmpR (op_neD hu8) (pe_doO DPM (hr.mono (by decide)) (g_people_right _ (.tail _ (.tail _ (.head _)))) passL (pa_cons (pv 0) (pa_cons (pv 1) (pa_cons (pv 2) (pa_cons (pv 3) pa_nil))))) (pe_callTy call_tuple_of (g_people_right _ (.tail _ (.tail _ (.tail _ (.head _))))) B.tuple (by decide +kernel) (pa_cons (pv 4) pa_nil)) (nomark _)) (pss_one (ps_ret pe_bl)) pss_nil)
      (pss_one (ps_ret (pe_or (pe_cmpR op_gt (pv 3) pe_int (nomark _)) (pe_one (pe_cmpR (op_eqD hu8) (pe_doK DPMK (hr.mono (by decide)) (g_people_right _ (.tail _ (.tail _ (.head _)))) passL (pk_cons (pv 3) (pk_cons (pv 2) (pk_cons (pv 1) (pk_cons (pv 0) pk_nil)))) (hlen := lenP)) (pe_callTy call_tuple_of (g_people_right _ (.tail _ (.tail _ (.tail _ (.head _))))) B.tuple (by decide +kernel) (pa_cons (pv 4) pa_nil)) (nomark _))))))))), ?_⟩
    refine ⟨by show 0 ≤ sizeLine; decide, fun D hD => ?_⟩
    have nD := Same.new (o := .lst []) hD
    refine ⟨fun σ' H' => ∃ (x5 x6 x7 : Option V), σ' = [some v, some (.int m), some (.int p), some (.int M), some (.ref D), x5, x6, x7] ∧ Bt1 D (upd H D (.lst [])) H' ∧ H' D = some (.lst (fnd (okP lo hi m p) M.toNat)), ?_, ?_⟩
    · refine ⟨_, rfl, _, _, rfl, rfl, _, _, rfl, ⟨by decide, by decide, by omega, by omega⟩, ?_⟩
      rw [show (M + 1 - 1).toNat = M.toNat by omega]
      refine for_range (lo := 1) (n := M.toNat) (fun i σ' H' => ∃ (x5 x6 x7 : Option V), σ' = [some v, some (.int m), some (.int p), some (.int M), some (.ref D), x5, x6, x7] ∧ Bt1 D (upd H D (.lst [])) H' ∧ H' D = some (.lst (fnd (okP lo hi m p) i)))
        ⟨none, none, none, rfl, fun b o e _ => e, upd_same⟩ ?_ (fun σ' H' z => z)
      rintro i _ H2 hi' ⟨x5, x6, x7, rfl, b2, hd2⟩
      have d1 : Dv H2 v (.tuple [.int lo, .int hi]) := dv_bt1 trivial hD b2 nD hd
      refine ⟨_, rfl, _, rfl, _, rfl, _, rfl, 1 + (i : Int), m, p, lo, hi, v, rfl, d1, ⟨by omega, by omega⟩, ⟨m0, m1⟩, p0, p1, fun z H3 nz hz => ?_⟩
      have hd3 := nz _ _ hd2
      refine ⟨z, _, rfl, .inl (.inl hz), rfl, _, _, rfl, _, _, rfl, rfl, ?_⟩
      refine ⟨_, rfl, _, rfl, _, _, rfl, rfl, _, rfl, ?_⟩
      have b3 : Bt1 D (upd H D (.lst [])) H3 := fun b o e n => nz _ _ (b2 b o e n)
      have step := fnd_succ (okP lo hi m p) i
      have oke : decide (loA (1 + (i : Int)) lo m p ≤ enH (1 + (i : Int)) hi m p) = okP lo hi m p (1 + (i : Int)) := congrFun okL _
      refine ite2 (fun c => ?_) (fun c => ?_)
      · have c' : okP lo hi m p (1 + (i : Int)) = true := oke.symm.trans c
        rw [if_pos c'] at step
        refine ⟨_, rfl, .inl ⟨rfl, _, .inl (.inl hd3)⟩, _, rfl, D, _, _, rfl, rfl, hd3, Nat.lt_of_le_of_lt (fnd_len _ i) (Nat.lt_of_lt_of_le (show i < 3000 by omega) (by decide)), _, _, _, rfl, fun b o e n => (upd_ne n).trans (b3 b o e n), ?_⟩
        rw [upd_same, step]
      · have c' : ¬ okP lo hi m p (1 + (i : Int)) = true := fun z => c (oke.trans z)
        rw [if_neg c', List.append_nil] at step
        refine ⟨_, _, _, rfl, b3, ?_⟩
        rw [step]
        exact hd3
    rintro _ H2 ⟨x5, x6, x7, rfl, b2, hd2⟩
    have s2 : Same H H2 := fun b o e => b2 b o (nD _ _ e) (ne_of_none e hD)
    -- by position
    refine ⟨fun σ' H' => Same H H' ∧ H' D = some (.lst (fnd (okP lo hi m p) M.toNat)) ∧ σ' = [some v, some (.int m), some (.int p), some (.int M), some (.ref D), x5, x6, x7], ?_, ?_⟩
    · refine ⟨_, rfl, _, rfl, _, rfl, _, rfl, v, .int m, .int p, .int M, _, .int m, .int p, .int M, rfl, ⟨hd.mono s2, .int _, .int _, .int _⟩, fun e => absurd e (by rw [sc_of l0 l1 l2]; decide), fun _ e => absurd (of_decide_eq_false e) (by omega), fun _ _ e => absurd e (pl_no p0 p1), fun _ _ _ e => absurd e (wh_no c1 c2), fun lo' hi' m' p' M' z1 z2 z3 z4 _ _ _ _ _ _ _ _ => ?_⟩
      cases z1; cases z2; cases z3; cases z4
      refine ⟨m1, fun q H3 s3 hq => ?_⟩
      refine ⟨_, rfl, D, _, rfl, .inl ⟨.inl (.inl (s3 _ _ hd2)), fun q' hq' => ?_⟩⟩
      have n := Same.new (o := .tup (fnd (okP lo hi m p) M.toNat)) hq'
      exact ne_tup (n _ _ hq) upd_same ⟨_, rfl, iteF ⟨s2.trans (s3.trans n), n _ _ (s3 _ _ hd2), rfl⟩⟩
    rintro _ H3 ⟨s3, hd3, rfl⟩
    -- by name
    refine ⟨_, rfl, _, _, rfl, rfl, _, rfl, ?_⟩
    refine ite2 (fun _ => hQ _ s3) (fun _ => ?_)
    refine ⟨_, rfl, _, rfl, _, rfl, _, rfl, v, .int m, .int p, .int M, _, .int m, .int p, .int M, rfl, ⟨hd.mono s3, .int _, .int _, .int _⟩, fun e => absurd e (by rw [sc_of l0 l1 l2]; decide), fun _ e => absurd (of_decide_eq_false e) (by omega), fun _ _ e => absurd e (pl_no p0 p1), fun _ _ _ e => absurd e (wh_no c1 c2), fun lo' hi' m' p' M' z1 z2 z3 z4 _ _ _ _ _ _ _ _ => ?_⟩
    cases z1; cases z2; cases z3; cases z4
    refine ⟨m1, fun q H4 s4 hq => ?_⟩
    refine ⟨_, rfl, D, _, rfl, .inl ⟨.inl (.inl (s4 _ _ hd3)), fun q' hq' => ?_⟩⟩
    have n := Same.new (o := .tup (fnd (okP lo hi m p) M.toNat)) hq'
    exact eq_tup (n _ _ hq) upd_same (hQ _ (s3.trans (s4.trans n)))
end
end K41
namespace K41
open PySem PySem.Spec PyProof.Rows L2 Tc Evl
/-- k ints from a on -/
def rgI (a : Int) (k : Nat) : List Int := (List.range k).map fun (i : Nat) => a + (i : Int)
theorem rgV_rgI (a b : Int) : rgV a b = (rgI a (b - a).toNat).map V.int := by
  unfold rgV rgI
  rw [List.map_map]
  rfl
theorem rgI_succ (a : Int) (k : Nat) : rgI a (k + 1) = rgI a k ++ [a + (k : Int)] := by
  unfold rgI
  rw [List.range_succ, List.map_append]
  rfl
theorem rgI_len (a : Int) (k : Nat) : (rgI a k).length = k := by
  unfold rgI
  rw [List.length_map, List.length_range]
theorem rgI_get {a : Int} {k i : Nat} {x : V} (h : ((rgI a k).map V.int)[i]? = some x) : x = .int (a + (i : Int)) ∧ i < k := by
  rw [List.getElem?_map] at h
  obtain ⟨z, hz, rfl⟩ := Option.map_eq_some_iff.mp h
  unfold rgI at hz
  rw [List.getElem?_map] at hz
  obtain ⟨j, hj, rfl⟩ := Option.map_eq_some_iff.mp hz
  have e := List.getElem?_eq_some_iff.mp hj
  obtain ⟨hl, e⟩ := e
  rw [List.getElem_range] at e
  rw [List.length_range] at hl
  exact ⟨by rw [e], hl⟩
theorem fil_rg {a l u : Int} {c : Int → Bool} (hc : ∀ t, c t = decide (l ≤ t ∧ t < u)) : ∀ k : Nat, (rgI a k).filter c = rgI (maxI l a) (minI u (a + (k : Int)) - maxI l a).toNat
  | 0 => by
    have e : (minI u (a + ((0 : Nat) : Int)) - maxI l a).toNat = 0 := by
      unfold maxI minI
      split <;> split <;> omega
    rw [e] <;> rfl
  | k + 1 => by
    rw [rgI_succ, List.filter_append, fil_rg hc k]
    by_cases h : l ≤ a + (k : Int) ∧ a + (k : Int) < u
    · have f : [a + (k : Int)].filter c = [a + (k : Int)] := by
        rw [List.filter_cons_of_pos (by rw [hc]; exact decide_eq_true h)] <;> rfl
      have e : (minI u (a + ((k + 1 : Nat) : Int)) - maxI l a).toNat = (minI u (a + (k : Int)) - maxI l a).toNat + 1 := by
        unfold maxI minI
        split <;> split <;> split <;> omega
      have g : maxI l a + (((minI u (a + (k : Int)) - maxI l a).toNat : Nat) : Int) = a + (k : Int) := by
        unfold maxI minI
        split <;> split <;> omega
      rw [f, e, rgI_succ, g]
    · have f : [a + (k : Int)].filter c = [] := by
        rw [List.filter_cons_of_neg (by rw [hc, decide_eq_true_eq]; exact h)] <;> rfl
      have e : (minI u (a + ((k + 1 : Nat) : Int)) - maxI l a).toNat = (minI u (a + (k : Int)) - maxI l a).toNat := by
        unfold maxI minI
        split <;> split <;> split <;> omega
      rw [f, e, List.append_nil]
theorem ceil_le {x K t : Int} (hK : 0 < K) : (x + K - 1) / K ≤ t ↔ x ≤ t * K := by
  have a := Int.ediv_mul_le (x + K - 1) (show K ≠ 0 by omega)
  have b := Int.lt_ediv_add_one_mul_self (x + K - 1) hK
  rw [Int.add_mul, Int.one_mul] at b
  constructor
  · intro h
    have := Int.mul_le_mul_of_nonneg_right h (Int.le_of_lt hK)
    omega
  · intro h
    refine Int.not_lt.mp fun z => ?_
    have := Int.mul_le_mul_of_nonneg_right (show t + 1 ≤ (x + K - 1) / K from z) (Int.le_of_lt hK)
    rw [Int.add_mul, Int.one_mul] at this
    omega
theorem div_iff {y N m : Int} (hN : 0 < N) : y / N = m ↔ m * N ≤ y ∧ y < m * N + N := by
  have a := Int.ediv_mul_le y (show N ≠ 0 by omega)
  have b := Int.lt_ediv_add_one_mul_self y hN
  rw [Int.add_mul, Int.one_mul] at b
  constructor
  · intro h
    rw [h] at a b
    exact ⟨a, b⟩
  · rintro ⟨h1, h2⟩
    have z1 : ¬ m + 1 ≤ y / N := fun z => by
      have := Int.mul_le_mul_of_nonneg_right z (Int.le_of_lt hN)
      rw [Int.add_mul, Int.one_mul] at this
      omega
    have z2 : ¬ y / N + 1 ≤ m := fun z => by
      have := Int.mul_le_mul_of_nonneg_right z (Int.le_of_lt hN)
      rw [Int.add_mul, Int.one_mul] at this
      omega
    omega
theorem lo_le {n m p t : Int} : loT n m p ≤ t ↔ 2 * (m * n) - n ≤ 2 * (timesI p * t) := by
  have tl := times_le p
  unfold loT
  rw [ceil_le (by omega)]
  have e1 : (2 * m - 1) * n = 2 * (m * n) - n := by rw [Int.sub_mul, Int.one_mul, Int.mul_assoc]
  have e2 : t * (2 * timesI p) = 2 * (timesI p * t) := by rw [Int.mul_left_comm, Int.mul_comm t]
  rw [e1, e2]
theorem be_le {n m p t : Int} : beT n m p ≤ t ↔ 2 * (m * n) + n ≤ 2 * (timesI p * t) := by
  have tl := times_le p
  unfold beT
  rw [ceil_le (by omega)]
  have e1 : (2 * m + 1) * n = 2 * (m * n) + n := by rw [Int.add_mul, Int.one_mul, Int.mul_assoc]
  have e2 : t * (2 * timesI p) = 2 * (timesI p * t) := by rw [Int.mul_left_comm, Int.mul_comm t]
  rw [e1, e2]
theorem mean_iff {n m p t : Int} (hn : 0 < n) : meanI n t p = m ↔ loT n m p ≤ t ∧ t < beT n m p := by
  have b := @be_le n m p t
  rw [lo_le, ← Int.not_le, be_le]
  unfold meanI nearI
  rw [div_iff (by omega)]
  have e1 : m * (2 * n) = 2 * (m * n) := Int.mul_left_comm _ _ _
  rw [e1]
  omega
theorem some_told {n lo hi m p : Int} (n1 : 1 ≤ n) (hT : timesI p ≤ n) (h1 : timesI p * lo ≤ m) (h2 : m ≤ timesI p * hi) (h3 : lo ≤ hi) : loA n lo m p < beB n hi m p := by
  have tl := times_le p
  have a1 : loT n m p ≤ beT n m p - 1 := by
    rw [lo_le]
    have z := (@be_le n m p (beT n m p)).mp (Int.le_refl _)
    rw [Int.mul_sub, Int.mul_one]
    omega
  have a2 : loT n m p ≤ n * hi := by
    rw [lo_le]
    have z := Int.mul_le_mul_of_nonneg_right h2 (show 0 ≤ n by omega)
    have e : timesI p * (n * hi) = timesI p * hi * n := by rw [Int.mul_assoc, Int.mul_comm n]
    rw [e]
    omega
  have a3 : ¬ beT n m p ≤ n * lo := by
    rw [be_le]
    have z := Int.mul_le_mul_of_nonneg_right h1 (show 0 ≤ n by omega)
    have e : timesI p * (n * lo) = timesI p * lo * n := by rw [Int.mul_assoc, Int.mul_comm n]
    rw [e]
    omega
  have a4 : n * lo ≤ n * hi := Int.mul_le_mul_of_nonneg_left h3 (by omega)
  unfold loA beB maxI minI
  split <;> split <;> omega
/-- the totals of people whose mean is told as m -/
theorem fil_told {n lo hi m p : Int} (n1 : 1 ≤ n) (h : lo ≤ hi) :
    (rgI (n * lo) (n * hi + 1 - n * lo).toNat).filter (fun t => decide (meanI n t p = m)) = rgI (loA n lo m p) (beB n hi m p - loA n lo m p).toNat := by
  have a4 : n * lo ≤ n * hi := Int.mul_le_mul_of_nonneg_left h (by omega)
  rw [fil_rg (l := loT n m p) (u := beT n m p) fun t => decide_eq_decide.mpr (mean_iff (by omega))]
  rw [show n * lo + (((n * hi + 1 - n * lo).toNat : Nat) : Int) = n * hi + 1 by omega]
  rfl
end K41
namespace K41
open PySem PySem.Spec PyProof.Rows L2 Tc Evl
open LamX (tLam LamS lamCx lamEnv Tabs TabB ExtN)
theorem dv_sc {H : Hp} {t : Addr} {lo hi : Int} (h : H t = some (.tup [.int lo, .int hi])) : Dv H (.ref t) (.tuple [.int lo, .int hi]) := .tup (.inl h) (.cons (.int _) (.cons (.int _) .nil))
/-- what an int of a few is -/
theorem few_le {l : List Int} {v : V} {b c : Int} (hv : v ∈ l.map V.int) (h : l.all (fun k => decide (b ≤ k) && decide (k ≤ c)) = true) : ∃ k : Int, v = .int k ∧ b ≤ k ∧ k ≤ c := by
  obtain ⟨k, hk, rfl⟩ := List.mem_map.mp hv
  have z := List.all_eq_true.mp h k hk
  obtain ⟨x, y⟩ := Bool.and_eq_true_iff.mp z
  exact ⟨k, rfl, of_decide_eq_true x, of_decide_eq_true y⟩
theorem b6 {i : Int} (h0 : 0 ≤ i) (h1 : i ≤ 10000) : i.natAbs < 2 ^ 600 := Nat.lt_of_le_of_lt (show i.natAbs ≤ 10000 by omega) (by decide)
theorem b2 {i : Int} (h0 : 0 ≤ i) (h1 : i ≤ 10000) : i.natAbs < 2 ^ 250 := Nat.lt_of_le_of_lt (show i.natAbs ≤ 10000 by omega) (by decide)
/-- a tuple with something in it is not () -/
theorem eq_tup_nil {K : PySem.W.Frag} {H : Hp} {a b : Addr} {l : List Int} {Q : VK} (ha : H a = some (.tup (l.map V.int))) (hb : H b = some (.tup [])) (hl : l ≠ []) (q : Q (.bl false) H) : rEqD K (.ref a) (.ref b) H Q := by
  refine ⟨.tuple (l.map PyData.int), .tuple [], .tup (.inl (.inl ha)) (dp_ints l), .tup (.inl (.inl hb)) .nil, shaped_tup l, by decide, ?_⟩
  cases l with
  | nil => exact absurd rfl hl
  | cons i r => exact q
section
variable {P : Program} {w : World} {K : PySem.W.Frag} {mg : Str → Option Value} {base : Heap}
theorem sc_rt : FnScope ["_law_pail_here", "_law_turn", "_law_low", "_law_places", "_law_scale", "_law_whole_here", "_law_mean", "_law_people", "_law_least", "_law_most", "_law_told", "_law_every", "_law_own"] ["_law_pail_here"] (defScope s_right) := ⟨rfl, rfl, rfl, by decide +kernel, rfl, by decide +kernel, by decide +kernel⟩
theorem g_rt : ∀ x ∈ (["range", "_law_sup", "_law_any", "_law_ends", "totals_for", "tuple", "list", "_law_people_right", "_law_refused_right", "max"] : List Str), (defScope s_right).names.lookup x = some .globalImplicit := by decide +kernel
def spRt (T : List (Addr × Str)) : Sp := fun vs H Q _ => ∃ a : Addr, vs = [.ref a] ∧ Pail H a ∧ Tabs T H ∧ ∀ H' : Hp, Tabs T H' → Kp a H H' → Q (.bl true) H'
theorem ok_rt {f CP CS CN CL : Addr} {fd : FuncData} {T : List (Addr × Str)} (F : Fun K "_law_right" "_law_right" s_right f fd) (B : Bl mg)
    (DS : CallO P w K mg base CX0 1 "_law_sup" ["_law_pail_here", "_law_many"] spSup) (DA : CallO P w K mg base CX0 2 "_law_any" ["_law_pail_here", "_law_some"] spAny)
    (DE : CallO P w K mg base CX0 1 "_law_ends" ["_law_people", "_law_scale", "_law_mean", "_law_places"] spEn)
    (DTF : CallO P w K mg base (L2.CX P w) 5 "totals_for" ["people", "scale", "mean", "places"] (spTF CP CS CN CL))
    (DTM : CallO P w K mg base (L2.CX P w) 5 "told_mean" ["people", "total", "places"] (spTM CP CN CL))
    (DP : CallO P w K mg base CX0 6 "_law_people_right" ["_law_scale", "_law_mean", "_law_places", "_law_most"] spPR)
    (DR : Call P w K mg base CX0 9 "_law_refused_right" ["_law_pail_here", "_law_people", "_law_scale", "_law_mean", "_law_places", "_law_most"] (spRef T)) :
    FnG P w K mg base CX0 10 f fd ["_law_pail_here"] (spRt T) := by
  refine Fun.okG F sc_rt (fun vs H Q E h => ?_) (fun cdv A outer s H vs Q E hr hgd h => ?_)
  · obtain ⟨a, rfl, _⟩ := h
    rfl
  · obtain ⟨a, rfl, hj, hT, hQ⟩ := h
    have hu8 : (A.deeper (envOfC "_law_right" (defScope s_right) s.heap.objs.size f cdv)).units + 64 < cLine := hr.units
    refine ⟨_, (pss_cons (ps_for PassesOwn.leaving rfl (pi_range1 (g_rt _ (.head _)) B.range (pa_cons pe_int pa_nil)) (pg_name (i := 1) sc_rt.nd rfl (.inl rfl)) (pss_mid (ps_asg (pe_tup (pa_cons (pe_doO DS (hr.mono (by decide)) (g_rt _ (.tail _ (.head _))) pass0 (pa_cons (pv 0) (pa_cons pe_int pa_nil))) (pa_cons (pe_doO DS (hr.mono (by decide)) (g_rt _ (.tail _ (.head _))) pass0 (pa_cons (pv 0) (pa_cons pe_int pa_nil))) pa_nil))) (pg_tup (by rfl) (pgs_cons (pg_name (i := 2) sc_rt.nd rfl (.inl rfl)) (pgs_cons (pg_name (i := 3) sc_rt.nd rfl (.inr rfl)) pgs_nil))))
      (pss_mid (ps_par (by rfl) sc_rt.nd (i := 4) (j := 5) rfl rfl (by decide) rfl rfl (pa_cons (pe_tup (pa_cons (pv 2) (pa_cons (pe_op op_add (pv 2) (pe_doO DS (hr.mono (by decide)) (g_rt _ (.tail _ (.head _))) pass0 (pa_cons (pv 0) (pa_cons (pe_op op_sub pe_int (pv 2)) pa_nil)))) pa_nil))) (pa_cons (pe_ix ix_list (pe_lst (pa_cons pe_int (pa_cons pe_int (pa_cons pe_int pa_nil)))) (pv 3) (fun _ _ => rfl)) pa_nil)) (by rfl))
      (pss_mid (ps_set (i := 6) sc_rt.nd rfl (.inr rfl) (pe_op op_mul (pv 5) (pe_op op_add (pe_ix ix_tup (pv 4) pe_int (fun _ _ => rfl)) (pe_doO DS (hr.mono (by decide)) (g_rt _ (.tail _ (.head _))) pass0 (pa_cons (pv 0) (pa_cons (pe_op op_add (pe_op op_sub (pe_ix ix_tup (pv 4) pe_int (fun _ _ => rfl)) (pe_ix ix_tup (pv 4) pe_int (fun _ _ => rfl))) pe_int) pa_nil))))))
      (pss_mid (ps_set (i := 6) sc_rt.nd rfl (.inr rfl) (pe_callB (call_max2 rfl) (g_rt _ (.tail _ (.tail _ (.tail _ (.tail _ (.tail _ (.tail _ (.tail _ (.tail _ (.tail _ (.head _))))))))))) B.max (by decide +kernel) (pa_cons pe_int (pa_cons (pe_op op_add (pv 6) (pe_doO DA (hr.mono (by decide)) (g_rt _ (.tail _ (.tail _ (.head _)))) pass0 (pa_cons (pv 0) (pa_cons (pe_lst (pa_cons pe_int (pa_cons pe_int (pa_cons (pe_un un_neg pe_int) (pa_cons pe_int (pa_cons pe_int (pa_cons pe_int (pa_cons pe_int (pa_cons (pe_un un_neg pe_int) pa_nil))))))))) pa_nil)))) pa_nil))))
      (pss_mid (ps_set (i := 7) sc_rt.nd rfl (.inr rfl) (pe_op op_add pe_int (pe_doO DS (hr.mono (by decide)) (g_rt _ (.tail _ (.head _))) pass0 (pa_cons (pv 0) (pa_cons (pe_doO DA (hr.mono (by decide)) (g_rt _ (.tail _ (.tail _ (.head _)))) pass0 (pa_cons (pv 0) (pa_cons (pe_lst (pa_cons pe_int (pa_cons pe_int (pa_cons pe_int (pa_cons pe_int (pa_cons pe_int pa_nil)))))) pa_nil))) pa_nil)))))
      (pss_mid (ps_asg (pe_doO DE (hr.mono (by decide)) (g_rt _ (.tail _ (.tail _ (.tail _ (.head _))))) pass0 (pa_cons (pv 7) (pa_cons (pv 4) (pa_cons (pv 6) (pa_cons (pv 3) pa_nil))))) (pg_tup (by rfl) (pgs_cons (pg_name (i := 8) sc_rt.nd rfl (.inl rfl)) (pgs_cons (pg_name (i := 9) sc_rt.nd rfl (.inl rfl)) pgs_nil))))
      (pss_mid (ps_set (i := 10) sc_rt.nd rfl (.inl rfl) (pe_doO DTF (hr.mono (by decide)) (g_rt _ (.tail _ (.tail _ (.tail _ (.tail _ (.head _)))))) passL (pa_cons (pv 7) (pa_cons (pv 4) (pa_cons (pv 6) (pa_cons (pv 3) pa_nil))))))
      (pss_mid (ps_if (pt_cmpR (op_neD hu8) (pv 10) (pe_tupRg rfl (g_rt _ (.tail _ (.tail _ (.tail _ (.tail _ (.tail _ (.head _))))))) B.tuple (prg_2 (g_rt _ (.head _)) B.range (pv 8) (pe_op op_add (pv 9) pe_int))) (nomark _)) (pss_one (ps_ret pe_bl)) pss_nil)
      (pss_mid (ps_if (pt_cmpR op_le (pv 7) pe_int (nomark _)) (pss_mid (ps_set (i := 11) sc_rt.nd rfl (.inl rfl) (pe_listRg rfl (g_rt _ (.tail _ (.tail _ (.tail _ (.tail _ (.tail _ (.tail _ (.head _)))))))) B.list (prg_2 (g_rt _ (.head _)) B.range (pe_op op_mul (pv 7) (pe_ix ix_tup (pv 4) pe_int (fun _ _ => rfl))) (pe_op op_add (pe_op op_mul (pv 7) (pe_ix ix_tup (pv 4) pe_int (fun _ _ => rfl))) pe_int)))) (pss_one (ps_if (pt_cmpR (op_neD hu8) (pe_callTy call_list_of (g_rt _ (.tail _ (.tail _ (.tail _ (.tail _ (.tail _ (.tail _ (.head _)))))))) B.list (by decide +kernel) (pa_cons (pv 10) pa_nil)) (pe_lc (own := [("_law_own", 12)]) (g := gName 12) (te := tVar 12) rfl sc_rt.nd (pi_list (pv 11)) (blkOk_by (own := [("_law_own", 12)]) (N := ["_law_pail_here", "_law_turn", "_law_low", "_law_places", "_law_scale", "_law_whole_here", "_law_mean", "_law_people", "_law_least", "_law_most", "_law_told", "_law_every", "_law_own"]) (sc := defScope s_right) (by decide +kernel)) (fun _ _ _ _ _ => pg_name (i := 12) sc_rt.nd rfl (.inl rfl))
          (fun _ _ _ _ _ => pts_one (pt_cmpR op_eq (pe_doO DTM (hr.mono (by decide)) (by rfl) passL (pa_cons (pv 7) (pa_cons (pv 12) (pa_cons (pv 3) pa_nil)))) (pv 6) (nomark _))) (fun _ _ _ _ _ => pv 12)) (nomark _)) (pss_one (ps_ret pe_bl)) pss_nil))) pss_nil)
      (pss_mid (ps_if (PW.pt (pw_and (pt_cmpR op_le (pv 5) (pv 7) (nomark _)) (pw_and (pt_cmpR op_le (pe_op op_mul (pv 5) (pe_ix ix_tup (pv 4) pe_int (fun _ _ => rfl))) (pv 6) (nomark _)) (pw_and (pt_cmpR op_le (pv 6) (pe_op op_mul (pv 5) (pe_ix ix_tup (pv 4) pe_int (fun _ _ => rfl))) (nomark _)) (pw_and1 (pt_cmpR (op_eqD hu8) (pv 10) (pe_tup pa_nil) (nomark _))))))) (pss_one (ps_ret pe_bl)) pss_nil)
      (pss_mid (ps_if (pt_not (pt_val (pe_doO DP (hr.mono (by decide)) (g_rt _ (.tail _ (.tail _ (.tail _ (.tail _ (.tail _ (.tail _ (.tail _ (.head _))))))))) pass0 (pa_cons (pv 4) (pa_cons (pv 6) (pa_cons (pv 3) (pa_cons (pe_doO DA (hr.mono (by decide)) (g_rt _ (.tail _ (.tail _ (.head _)))) pass0 (pa_cons (pv 0) (pa_cons (pe_lst (pa_cons pe_int (pa_cons pe_int (pa_cons pe_int (pa_cons pe_int pa_nil))))) pa_nil))) pa_nil))))))) (pss_one (ps_ret pe_bl)) pss_nil)
      (pss_one (ps_if (pt_not (pt_val (pe_do DR (hr.mono (by decide)) hgd (g_rt _ (.tail _ (.tail _ (.tail _ (.tail _ (.tail _ (.tail _ (.tail _ (.tail _ (.head _)))))))))) pass0 (pa_cons (pv 0) (pa_cons (pv 7) (pa_cons (pv 4) (pa_cons (pv 6) (pa_cons (pv 3) (pa_cons pe_int pa_nil))))))))) (pss_one (ps_ret pe_bl)) pss_nil))))))))))))))
      (pss_one (ps_ret (pe_or (pe_cmpR op_gt (pe_doO DS (hr.mono (by decide)) (g_rt _ (.tail _ (.head _))) pass0 (pa_cons (pv 0) (pa_cons pe_int pa_nil))) pe_int (nomark _)) (pe_one (pe_doO DP (hr.mono (by decide)) (g_rt _ (.tail _ (.tail _ (.tail _ (.tail _ (.tail _ (.tail _ (.tail _ (.head _))))))))) pass0 (pa_cons (pe_tup (pa_cons pe_int (pa_cons pe_int pa_nil))) (pa_cons (pe_op op_add (pe_op op_mul pe_int (pe_doO DS (hr.mono (by decide)) (g_rt _ (.tail _ (.head _))) pass0 (pa_cons (pv 0) (pa_cons pe_int pa_nil)))) (pe_doO DS (hr.mono (by decide)) (g_rt _ (.tail _ (.head _))) pass0 (pa_cons (pv 0) (pa_cons pe_int pa_nil)))) (pa_cons pe_int (pa_cons pe_int pa_nil)))))))))), ?_⟩
    refine s_forR1 (n := 4) (ea_cons ev_c ea_nil) (by decide) (fun _ σ' H' => (Tabs T H' ∧ Pail H' a ∧ Kp a H H') ∧ ∃ x1 x2 x3 x4 x5 x6 x7 x8 x9 x10 x11 x12, σ' = [some (.ref a), x1, x2, x3, x4, x5, x6, x7, x8, x9, x10, x11, x12])
      (fun H2 e => ⟨⟨hT.ext e, pail_same hj e, (Kp.refl a H).same e⟩, none, none, none, none, none, none, none, none, none, none, none, none, rfl⟩) ?_ ?_
    · rintro i _ H1 hi4 ⟨⟨t1, j1, k1⟩, x1, x2, x3, x4, x5, x6, x7, x8, x9, x10, x11, x12, rfl⟩
      -- low, places
      refine ⟨fun σ' H' => (Tabs T H' ∧ Pail H' a ∧ Kp a H H') ∧ ∃ lo p : Int, σ' = [some (.ref a), some (.int (i : Int)), some (.int lo), some (.int p), x4, x5, x6, x7, x8, x9, x10, x11, x12] ∧ (0 ≤ lo ∧ lo ≤ 5) ∧ 0 ≤ p ∧ p < 3, ?_, ?_⟩
      · refine ⟨_, rfl, a, 6, rfl, j1, by decide, by decide, fun r H2 r0 r6 j2 b2 => ⟨_, rfl, a, 3, rfl, j2, by decide, by decide, fun r' H3 r0' r3 j3 b3 => ⟨by show 2 ≤ sizeLine; decide, fun z hz => ?_⟩⟩⟩
        have nz := Same.new (o := .tup [V.int r, V.int r']) hz
        exact ⟨z, _, rfl, .inl (.inl upd_same), rfl, _, _, rfl, _, _, rfl, rfl, ⟨(tabs_but (tabs_but t1 j1 b2) j2 b3).ext nz, pail_same j3 nz, ((k1.but b2).but b3).same nz⟩, r, r', rfl, ⟨r0, by omega⟩, r0', r3⟩
      rintro _ H2 ⟨⟨t2, j2, k2⟩, lo, p, rfl, ⟨l0, l5⟩, p0, p3⟩
      have tl := times_le p
      -- scale
      refine ⟨fun σ' H' => (Tabs T H' ∧ Pail H' a ∧ Kp a H H') ∧ ∃ (hi : Int) (t : Addr), σ' = [some (.ref a), some (.int (i : Int)), some (.int lo), some (.int p), some (.ref t), some (.int (timesI p)), x6, x7, x8, x9, x10, x11, x12] ∧ H' t = some (.tup [.int lo, .int hi]) ∧ lo ≤ hi ∧ hi ≤ 6, ?_, ?_⟩
      · refine ⟨_, rfl, _, rfl, _, rfl, _, rfl, _, _, rfl, rfl, a, 7 - lo, rfl, j2, by omega, b6 (by omega) (by omega), fun r H3 r0 r1 j3 b3 => ⟨_, _, rfl, rfl, by show 2 ≤ sizeLine; decide, fun t ht => ⟨by show 3 ≤ sizeLine; decide, fun L hL => ?_⟩⟩⟩
        have nt := Same.new (o := .tup [V.int lo, V.int (lo + r)]) ht
        have nL := Same.new (o := .lst [V.int 1, V.int 10, V.int 100]) hL
        exact ⟨_, rfl, L, _, _, _, rfl, rfl, .inl (.inl upd_same), times_at p0 p3, _, _, rfl, ⟨((tabs_but t2 j2 b3).ext nt).ext nL, pail_same (pail_same j3 nt) nL, ((k2.but b3).same nt).same nL⟩, lo + r, t, rfl, nL _ _ upd_same, by omega, by omega⟩
      rintro _ H3 ⟨⟨t3, j3, k3⟩, hi, t, rfl, ht, l1, l2⟩
      have ta : t ≠ a := fun z => by
        obtain ⟨m', o', e, _⟩ := j3
        rw [z, e] at ht
        cases ht
      -- mean
      refine ⟨fun σ' H' => (Tabs T H' ∧ Pail H' a ∧ Kp a H H') ∧ H' t = some (.tup [.int lo, .int hi]) ∧ ∃ m : Int, σ' = [some (.ref a), some (.int (i : Int)), some (.int lo), some (.int p), some (.ref t), some (.int (timesI p)), some (.int m), x7, x8, x9, x10, x11, x12] ∧ 0 ≤ m ∧ m ≤ 600, ?_, ?_⟩
      · refine ⟨_, rfl, _, rfl, t, _, 0, _, rfl, rfl, .inl (.inl ht), rfl, _, rfl, _, rfl, t, _, 1, _, rfl, rfl, .inl (.inl ht), rfl, _, rfl, t, _, 0, _, rfl, rfl, .inl (.inl ht), rfl, _, _, rfl, rfl, _, _, rfl, rfl, a, hi - lo + 1, rfl, j3, by omega, b6 (by omega) (by omega), fun r H4 r0 r1 j4 b4 => ?_⟩
        have hl : timesI p * (lo + r) ≤ 100 * 6 := Int.mul_le_mul (by omega) (by omega) (by omega) (by decide)
        have h0 : 0 ≤ timesI p * (lo + r) := Int.mul_nonneg (by omega) (by omega)
        exact ⟨_, _, rfl, rfl, _, _, rfl, rfl, .inl ⟨by omega, by omega⟩, ⟨tabs_but t3 j3 b4, j4, k3.but b4⟩, b4 _ _ ht ta, _, rfl, h0, hl⟩
      rintro _ H4 ⟨⟨t4, j4, k4⟩, ht, m0, rfl, m00, m06⟩
      refine ⟨fun σ' H' => (Tabs T H' ∧ Pail H' a ∧ Kp a H H') ∧ H' t = some (.tup [.int lo, .int hi]) ∧ ∃ m : Int, σ' = [some (.ref a), some (.int (i : Int)), some (.int lo), some (.int p), some (.ref t), some (.int (timesI p)), some (.int m), x7, x8, x9, x10, x11, x12] ∧ 0 ≤ m ∧ m ≤ 640, ?_, ?_⟩
      · obtain ⟨o1, ho1⟩ := pail_some j4
        refine ⟨_, rfl, _, rfl, _, rfl, _, rfl, by show 8 ≤ sizeLine; decide, fun g hg => ?_⟩
        have s1 := Same.new (o := .lst (([0, 1, -1, 3, 5, 7, 33, -40] : List Int).map V.int)) hg
        refine ⟨a, g, _, rfl, pail_same j4 s1, upd_same, (ne_of_none ho1 hg).symm, by show 0 < 8; decide, by show 8 ≤ 1000; decide, fun v H5' hv j5' b5' => ?_⟩
        obtain ⟨k, rfl, k0, kk3⟩ := few_le (l := [0, 1, -1, 3, 5, 7, 33, -40]) (b := -40) (c := 33) hv (by decide)
        refine ⟨_, _, rfl, rfl, _, _, rfl, ⟨tabs_but (t4.ext s1) (pail_same j4 s1) b5', j5', (k4.same s1).but b5'⟩, b5' _ _ (s1 _ _ ht) ta, _, rfl, ?_, ?_⟩ <;> split <;> omega
      rintro _ H5 ⟨⟨t5, j5, k5⟩, ht, m, rfl, m0', m6⟩
      -- people
      refine ⟨fun σ' H' => (Tabs T H' ∧ Pail H' a ∧ Kp a H H') ∧ H' t = some (.tup [.int lo, .int hi]) ∧ ∃ n : Int, σ' = [some (.ref a), some (.int (i : Int)), some (.int lo), some (.int p), some (.ref t), some (.int (timesI p)), some (.int m), some (.int n), x8, x9, x10, x11, x12] ∧ 1 ≤ n ∧ n ≤ 3000, ?_, ?_⟩
      · obtain ⟨o1, ho1⟩ := pail_some j5
        refine ⟨_, rfl, _, rfl, by show 5 ≤ sizeLine; decide, fun g hg => ?_⟩
        have s1 := Same.new (o := .lst (([4, 12, 24, 24, 3000] : List Int).map V.int)) hg
        refine ⟨a, g, _, rfl, pail_same j5 s1, upd_same, (ne_of_none ho1 hg).symm, by show 0 < 5; decide, by show 5 ≤ 1000; decide, fun v H5' hv j5' b5' => ?_⟩
        obtain ⟨k, rfl, k0, kk3⟩ := few_le (l := [4, 12, 24, 24, 3000]) (b := 4) (c := 3000) hv (by decide)
        exact ⟨a, k, rfl, j5', by omega, b6 (by omega) (by omega), fun r H7 r0 r1 j7 b7 => ⟨_, _, rfl, rfl, ⟨tabs_but (tabs_but (t5.ext s1) (pail_same j5 s1) b5') j5' b7, j7, ((k5.same s1).but b5').but b7⟩, b7 _ _ (b5' _ _ (s1 _ _ ht) ta) ta, _, rfl, by omega, by omega⟩⟩
      rintro _ H6 ⟨⟨t6, j6, k6⟩, ht, n, rfl, n1, n2⟩
      -- least, most
      refine ⟨fun σ' H' => Same H6 H' ∧ σ' = [some (.ref a), some (.int (i : Int)), some (.int lo), some (.int p), some (.ref t), some (.int (timesI p)), some (.int m), some (.int n), some (.int (loA n lo m p)), some (.int (enH n hi m p)), x10, x11, x12], ?_, ?_⟩
      · exact ⟨_, rfl, _, rfl, _, rfl, _, rfl, n, m, p, lo, hi, .ref t, rfl, dv_sc ht, ⟨by omega, n2⟩, ⟨m0', by omega⟩, p0, p3, fun z H7 nz hz => ⟨z, _, rfl, .inl (.inl hz), rfl, _, _, rfl, _, _, rfl, rfl, nz, rfl⟩⟩
      rintro _ H7 ⟨s7, rfl⟩
      -- told
      refine ⟨fun σ' H' => Same H6 H' ∧ ∃ q, σ' = [some (.ref a), some (.int (i : Int)), some (.int lo), some (.int p), some (.ref t), some (.int (timesI p)), some (.int m), some (.int n), some (.int (loA n lo m p)), some (.int (enH n hi m p)), some (.ref q), x11, x12] ∧ H' q = some (.tup (rgV (loA n lo m p) (beB n hi m p))), ?_, ?_⟩
      · refine ⟨_, rfl, _, rfl, _, rfl, _, rfl, .int n, .ref t, .int m, .int p, .int n, .tuple [.int lo, .int hi], .int m, .int p, rfl, ⟨.int _, dv_sc (s7 _ _ ht), .int _, .int _⟩, fun e => absurd e (pe_no n1 n2), fun _ e => absurd e (by rw [sc_of l0 l1 l2]; decide), fun _ _ e => absurd (of_decide_eq_false e) (by omega), fun _ _ _ e => absurd e (pl_no p0 p3), fun n' lo' hi' m' p' z1 z2 z3 z4 _ _ _ _ _ _ _ _ => ?_⟩
        cases z1; cases z2; cases z3; cases z4
        exact ⟨by omega, fun q H8 s8 hq => ⟨s7.trans s8, q, rfl, hq⟩⟩
      rintro _ H8 ⟨s8, q, rfl, hq⟩
      have rg := rg_ok (p := p) (show 0 ≤ n by omega) n2 l0 l1 l2 m0' (show m ≤ 1000 by omega)
      have e9 := enH_eq n hi m p
      rw [rgV_rgI] at hq
      -- the range
      refine ⟨fun σ' H' => Same H6 H' ∧ H' q = some (.tup ((rgI (loA n lo m p) (beB n hi m p - loA n lo m p).toNat).map V.int)) ∧ σ' = [some (.ref a), some (.int (i : Int)), some (.int lo), some (.int p), some (.ref t), some (.int (timesI p)), some (.int m), some (.int n), some (.int (loA n lo m p)), some (.int (enH n hi m p)), some (.ref q), x11, x12], ?_, ?_⟩
      · refine ⟨_, rfl, _, rfl, _, rfl, _, _, rfl, rfl, _, _, rfl, rfl, ?_⟩
        rw [e9]
        refine ⟨RgOk.of_le rg.1.1 (by omega) rg.1.2 rg.2.1, fun y hy => ?_⟩
        have ny := Same.new (o := .tup (rgV (loA n lo m p) (beB n hi m p))) hy
        exact ne_tup (l := (rgI (loA n lo m p) (beB n hi m p - loA n lo m p).toNat)) (ny _ _ hq) (by rw [upd_same, rgV_rgI]) ⟨_, rfl, iteF ⟨s8.trans ny, ny _ _ hq, rfl⟩⟩
      rintro _ H9 ⟨s9, hq, rfl⟩
      -- a few people
      refine ⟨fun σ' H' => Same H6 H' ∧ H' q = some (.tup ((rgI (loA n lo m p) (beB n hi m p - loA n lo m p).toNat).map V.int)) ∧ ∃ y11, σ' = [some (.ref a), some (.int (i : Int)), some (.int lo), some (.int p), some (.ref t), some (.int (timesI p)), some (.int m), some (.int n), some (.int (loA n lo m p)), some (.int (enH n hi m p)), some (.ref q), y11, x12], ?_, ?_⟩
      · refine ⟨_, rfl, _, _, rfl, rfl, _, rfl, ?_⟩
        refine ite2 (fun c => ?_) (fun _ => ⟨s9, hq, x11, rfl⟩)
        have n24 : n ≤ 24 := of_decide_eq_true c
        have ht9 := s9 _ _ ht
        have a1 : 0 ≤ n * lo := Int.mul_nonneg (by omega) l0
        have a2 : n * hi ≤ 24 * 6 := Int.mul_le_mul n24 l2 (by omega) (by decide)
        have a4 : n * lo ≤ n * hi := Int.mul_le_mul_of_nonneg_left l1 (by omega)
        refine ⟨fun σ' H' => Same H9 H' ∧ ∃ e, σ' = [some (.ref a), some (.int (i : Int)), some (.int lo), some (.int p), some (.ref t), some (.int (timesI p)), some (.int m), some (.int n), some (.int (loA n lo m p)), some (.int (enH n hi m p)), some (.ref q), some (.ref e), x12] ∧ H' e = some (.lst ((rgI (n * lo) (n * hi + 1 - n * lo).toNat).map V.int)), ?_, ?_⟩
        · exact ⟨_, rfl, _, rfl, t, _, 0, _, rfl, rfl, .inl (.inl ht9), rfl, _, _, rfl, rfl, .inl ⟨by omega, by omega⟩, _, rfl, _, rfl, t, _, 1, _, rfl, rfl, .inl (.inl ht9), rfl, _, _, rfl, rfl, .inl ⟨by omega, by omega⟩, _, _, rfl, rfl, _, _, rfl, rfl, RgOk.of_le a1 (by omega) (by omega) (by omega), fun e he => ⟨Same.new he, e, rfl, by rw [upd_same, rgV_rgI]⟩⟩
        rintro _ H10 ⟨s10, e, rfl, he⟩
        refine ⟨_, rfl, q, _, rfl, .inr (.inl (.inl (s10 _ _ hq))), fun b hb => ?_⟩
        have nb := Same.new (o := .lst ((rgI (loA n lo m p) (beB n hi m p - loA n lo m p).toNat).map V.int)) hb
        have heb := nb _ _ he
        refine ⟨_, rfl, e, rfl, ⟨_, .inl (.inl heb)⟩, fun D hD => lc_list (xs := (rgI (n * lo) (n * hi + 1 - n * lo).toNat).map V.int)
          (fun i H' => Same (upd H10 b (.lst ((rgI (loA n lo m p) (beB n hi m p - loA n lo m p).toNat).map V.int))) H' ∧ H' D = some (.lst (((rgI (n * lo) i).filter fun t => decide (meanI n t p = m)).map V.int))) ⟨Same.new hD, upd_same⟩ (fun i H' _ z => .inl (.inl (z.1 _ _ heb))) (fun i x H' hx z => ?_) (fun H' z => ?_)⟩
        · obtain ⟨rfl, ik⟩ := rgI_get hx
          obtain ⟨zs, zd⟩ := z
          refine ⟨rfl, _, rfl, _, rfl, _, rfl, .int n, .int (n * lo + (i : Int)), .int p, .int n, .int (n * lo + (i : Int)), .int p, rfl, ⟨.int _, .int _, .int _⟩, (fun j e => by cases e; exact b2 (by omega) (by omega)), fun e => absurd (of_decide_eq_false e) (by omega), fun _ e => absurd (of_decide_eq_false e) (by omega), fun _ _ e => absurd e (pl_no p0 p3), fun n' t' p' z1 z2 z3 _ _ _ _ => ?_⟩
          cases z1; cases z2; cases z3
          refine ⟨_, rfl, rfl, _, rfl, ?_⟩
          have ck : ∀ x : Int, (decide (V.int x = V.int m)) = decide (x = m) := fun x => decide_eq_decide.mpr ⟨fun h => V.int.inj h, fun h => congrArg V.int h⟩
          refine ite2 (fun cc => ?_) (fun cc => ?_)
          · rw [ck] at cc
            refine ⟨_, rfl, _, zd, ?_, fun c o e => (upd_ne (ne_of_none e hD)).trans (zs c o e), ?_⟩
            · rw [List.length_map]
              have z1 := List.length_filter_le (fun t => decide (meanI n t p = m)) (rgI (n * lo) i)
              rw [rgI_len] at z1
              exact Nat.lt_of_le_of_lt z1 (Nat.lt_of_lt_of_le (show i < 1000 by omega) (by decide))
            · rw [upd_same, rgI_succ, List.filter_append, List.map_append, List.filter_cons_of_pos (p := fun t => decide (meanI n t p = m)) (a := n * lo + (i : Int)) cc]
              rfl
          · rw [ck] at cc
            refine ⟨zs, ?_⟩
            rw [rgI_succ, List.filter_append, List.filter_cons_of_neg (p := fun t => decide (meanI n t p = m)) (a := n * lo + (i : Int)) cc, List.filter_nil, List.append_nil]
            exact zd
        · obtain ⟨zs, zd⟩ := z
          rw [List.length_map, rgI_len, fil_told n1 l1] at zd
          exact ne_lst (l := (rgI (loA n lo m p) (beB n hi m p - loA n lo m p).toNat)) (zs _ _ upd_same) zd ⟨_, rfl, iteF ⟨s9.trans (s10.trans (nb.trans zs)), zs _ _ (nb _ _ (s10 _ _ hq)), _, rfl⟩⟩
      rintro _ HA ⟨sA, hq, y11, rfl⟩
      have htA := sA _ _ ht
      -- some total
      refine ⟨fun σ' H' => Same H6 H' ∧ σ' = [some (.ref a), some (.int (i : Int)), some (.int lo), some (.int p), some (.ref t), some (.int (timesI p)), some (.int m), some (.int n), some (.int (loA n lo m p)), some (.int (enH n hi m p)), some (.ref q), y11, x12], ?_, ?_⟩
      · refine ⟨_, rfl, _, rfl, _, _, rfl, rfl, _, rfl, ite2 (fun c1 => ?_) (fun _ => ⟨sA, rfl⟩)⟩
        refine ⟨_, rfl, _, rfl, t, _, 0, _, rfl, rfl, .inl (.inl htA), rfl, _, _, rfl, rfl, .inl ⟨by omega, by omega⟩, _, rfl, _, _, rfl, rfl, _, rfl, ite2 (fun c2 => ?_) (fun _ => ⟨sA, rfl⟩)⟩
        refine ⟨_, rfl, _, rfl, _, rfl, t, _, 1, _, rfl, rfl, .inl (.inl htA), rfl, _, _, rfl, rfl, .inl ⟨by omega, by omega⟩, _, _, rfl, rfl, _, rfl, ite2 (fun c3 => ?_) (fun _ => ⟨sA, rfl⟩)⟩
        refine ⟨_, rfl, by show 0 ≤ sizeLine; decide, fun z hz => ?_⟩
        have nz := Same.new (o := .tup []) hz
        have gt := some_told (p := p) n1 (of_decide_eq_true c1) (of_decide_eq_true c2) (of_decide_eq_true c3) l1
        refine eq_tup_nil (l := (rgI (loA n lo m p) (beB n hi m p - loA n lo m p).toNat)) (nz _ _ hq) upd_same (fun z => ?_) ⟨_, rfl, iteF ⟨sA.trans nz, rfl⟩⟩
        have zl := congrArg List.length z
        rw [rgI_len] at zl
        have zl : (beB n hi m p - loA n lo m p).toNat = 0 := zl
        omega
      rintro _ HB ⟨sB, rfl⟩
      have t7 := t6.ext sB
      have j7 := pail_same j6 sB
      have k7 := k6.same sB
      have htB := sB _ _ ht
      -- the numbers of people
      refine ⟨fun σ' H' => (Tabs T H' ∧ Pail H' a ∧ Kp a H H') ∧ H' t = some (.tup [.int lo, .int hi]) ∧ σ' = [some (.ref a), some (.int (i : Int)), some (.int lo), some (.int p), some (.ref t), some (.int (timesI p)), some (.int m), some (.int n), some (.int (loA n lo m p)), some (.int (enH n hi m p)), some (.ref q), y11, x12], ?_, ?_⟩
      · obtain ⟨o1, ho1⟩ := pail_some j7
        refine ⟨_, rfl, _, rfl, _, rfl, _, rfl, by show 4 ≤ sizeLine; decide, fun g hg => ?_⟩
        have s1 := Same.new (o := .lst (([1, 7, 30, 60] : List Int).map V.int)) hg
        refine ⟨a, g, _, rfl, pail_same j7 s1, upd_same, (ne_of_none ho1 hg).symm, by show 0 < 4; decide, by show 4 ≤ 1000; decide, fun v H5' hv j5' b5' => ?_⟩
        obtain ⟨M, rfl, k0, kk3⟩ := few_le (l := [1, 7, 30, 60]) (b := 1) (c := 60) hv (by decide)
        have htC := b5' _ _ (s1 _ _ htB) ta
        exact ⟨.ref t, m, p, M, lo, hi, rfl, dv_sc htC, ⟨l0, l1, l2⟩, ⟨m0', by omega⟩, ⟨p0, p3⟩, ⟨by omega, by omega⟩, fun HD sD => ⟨_, rfl, iteF ⟨⟨(tabs_but (t7.ext s1) (pail_same j7 s1) b5').ext sD, pail_same j5' sD, ((k7.same s1).but b5').same sD⟩, sD _ _ htC, rfl⟩⟩⟩
      rintro _ HC ⟨⟨tC, jC, kC⟩, htC, rfl⟩
      exact ⟨_, rfl, _, rfl, _, rfl, _, rfl, _, rfl, a, n, m, p, lo, hi, .ref t, rfl, jC, dv_sc htC, ⟨l0, l1, l2⟩, ⟨vl_int (by omega) (b2 (by omega) (by omega)), vl_int m0' (b2 m0' (by omega)), vl_int p0 (b2 p0 (by omega))⟩, tC, fun H' t' j' k' => ⟨_, rfl, iteF ⟨⟨t', j', fun b o e n z => k' b o (kC b o e n z) n z⟩, _, _, _, _, _, _, _, _, _, _, _, _, rfl⟩⟩⟩
    -- the last
    rintro _ H' ⟨⟨t1, j1, k1⟩, x1, x2, x3, x4, x5, x6, x7, x8, x9, x10, x11, x12, rfl⟩
    refine ⟨_, rfl, a, 8, rfl, j1, by decide, by decide, fun r H2 r0 r8 j2 b2' => ⟨_, _, rfl, rfl, _, rfl, ?_⟩⟩
    have t2 := tabs_but t1 j1 b2'
    have k2 := k1.but b2'
    refine ite2 (fun _ => hQ H2 t2 k2) (fun _ => ?_)
    refine ⟨by show 2 ≤ sizeLine; decide, fun z hz => ?_⟩
    have nz := Same.new (o := .tup [V.int 1, V.int 5]) hz
    have za : z ≠ a := fun e => by
      obtain ⟨o, ho⟩ := pail_some j2
      rw [e, ho] at hz
      cases hz
    refine ⟨_, rfl, a, 6, rfl, pail_same j2 nz, by decide, by decide, fun r1 H3 r10 r16 j3 b3 => ⟨_, _, rfl, rfl, .inl ⟨by omega, by omega⟩, _, rfl, a, 100, rfl, j3, by decide, by decide, fun r2 H4 r20 r21 j4 b4 => ⟨_, _, rfl, rfl, ?_⟩⟩⟩
    have hz4 := b4 _ _ (b3 _ _ upd_same za) za
    exact ⟨.ref z, 100 * r1 + r2, 2, 3000, 1, 5, rfl, dv_sc hz4, ⟨by decide, by decide, by decide⟩, ⟨by omega, by omega⟩, ⟨by decide, by decide⟩, ⟨by decide, by decide⟩, fun H5 s5 => hQ H5 ((tabs_but (tabs_but (t2.ext nz) (pail_same j2 nz) b3) j3 b4).ext s5) ((((k2.same nz).but b3).but b4).same s5)⟩
end
end K41
namespace K41
open PySem PySem.Spec PyProof.Rows L2 Tc Evl
open LamX (tLam LamS lamCx lamEnv Tabs TabB ExtN TabS)
section
variable {P : Program} {w : World} {K : PySem.W.Frag} {mg : Str → Option Value} {base : Heap}
theorem sc_law : FnScope ["_law_script", "_law_turn"] ["_law_script"] (defScope s_law) := ⟨rfl, rfl, rfl, by decide +kernel, rfl, by decide +kernel, by decide +kernel⟩
theorem g_law : ∀ x ∈ (["all", "range", "max", "min", "len"] : List Str), (defScope s_law).names.lookup x = some .globalImplicit := by decide +kernel
def spLaw (K : PySem.W.Frag) (T : List (Addr × Str)) : Sp := fun vs H Q _ => ∃ (a : Addr) (ns : List Int), vs = [.ref a] ∧ SqL K H a (ns.map V.int) ∧ ns.length ≤ 63 ∧ Tabs T H ∧ ∀ H', Q (.bl true) H'
theorem sq_but {H H' : Hp} {a p : Addr} {xs : List V} (h : SqL K H a xs) (hp : H p = none) (b : ∀ c o, H c = some o → c ≠ p → (∀ ps, o ≠ .tbl ps) → H' c = some o) : SqL K H' a xs := by
  rcases h with (h | ⟨o, h⟩) | h
  · exact .inl (.inl (b _ _ h (ne_of_none h hp) (fun _ z => nomatch z)))
  · exact .inl (.inr ⟨o, b _ _ h (ne_of_none h hp) (fun _ z => nomatch z)⟩)
  · exact .inr h
theorem sq_ext {H H' : Hp} {a : Addr} {xs : List V} (x : ExtN H H') (h : SqL K H a xs) : SqL K H' a xs := by
  rcases h with (h | ⟨o, h⟩) | h
  · exact .inl (.inl (x _ _ h (fun _ z => nomatch z)))
  · exact .inl (.inr ⟨o, x _ _ h (fun _ z => nomatch z)⟩)
  · exact .inr h
theorem ok_law {f : Addr} {fd : FuncData} {T : List (Addr × Str)} (F : Fun K "law" "law" s_law f fd) (B : Bl mg)
    (DJ : Call P w K mg base CX0 1 "_law_pail" ["_law_script", "_law_turn"] (spPail K)) (DR : Call P w K mg base CX0 10 "_law_right" ["_law_pail_here"] (spRt T)) :
    FnG P w K mg base CX0 11 f fd ["_law_script"] (spLaw K T) := by
  refine Fun.okG F sc_law (fun vs H Q E h => ?_) (fun cdv A outer s H vs Q E hr hgd h => ?_)
  · obtain ⟨a, ns, rfl, _⟩ := h
    rfl
  · obtain ⟨a, ns, rfl, hS, hl, hT, hQ⟩ := h
    refine ⟨_, pss_one (ps_ret (pe_callB (cr_all rfl) (g_law _ (.head _)) B.all (by decide +kernel) (pa_cons
      (pe_lc (own := [("_law_turn", 1)]) (g := gName 1) (te := tCall (spRt T) [] (fun _ _ _ => False) (tCons (tCall (spPail K) [] (fun _ _ _ => False) (tCons (tVar 0) (tCons (tVar 1) tNil))) tNil)) rfl sc_law.nd
        (pi_range1 (g_law _ (.tail _ (.head _))) B.range (pa_cons (pe_callB (call_max2 rfl) (g_law _ (.tail _ (.tail _ (.head _)))) B.max (by decide +kernel) (pa_cons pe_int (pa_cons
          (pe_callB (call_min2 rfl) (g_law _ (.tail _ (.tail _ (.tail _ (.head _))))) B.min (by decide +kernel) (pa_cons (pe_callB call_len (g_law _ (.tail _ (.tail _ (.tail _ (.tail _ (.head _)))))) B.len (by decide +kernel) (pa_cons (pv 0) pa_nil)) (pa_cons pe_int pa_nil))) pa_nil))) pa_nil))
        (blkOk_by (own := [("_law_turn", 1)]) (N := ["_law_script", "_law_turn"]) (sc := defScope s_law) (by decide +kernel)) (fun _ _ _ _ _ => pg_name (i := 1) sc_law.nd rfl (.inl rfl)) (fun _ _ _ _ _ => pts_nil)
        (fun _ _ _ _ _ => pe_do DR (hr.mono (by decide)) hgd (by rfl) pass0 (pa_cons (pe_do DJ (hr.mono (by decide)) hgd (by rfl) pass0 (pa_cons (pv 0) (pa_cons (pv 1) pa_nil))) pa_nil))) pa_nil))), ?_⟩
    obtain ⟨N, hN, N2, N5⟩ : ∃ N : Int, (if (if (4 : Int) < ((ns.map V.int).length : Nat) then (4 : Int) else ((ns.map V.int).length : Nat)) > 2 then (if (4 : Int) < ((ns.map V.int).length : Nat) then (4 : Int) else ((ns.map V.int).length : Nat)) else 2) = N ∧ 2 ≤ N ∧ N ≤ 4 := by
      refine ⟨_, rfl, ?_, ?_⟩
      · (repeat' split) <;> omega
      · (repeat' split) <;> omega
    refine ⟨_, rfl, _, _, rfl, .inl ⟨_, hS, rfl⟩, _, _, rfl, _, _, rfl, ?_⟩
    rw [hN]
    refine ⟨N, rfl, by omega, by omega, fun D hD => lc_range (lo := 0) (n := N.toNat) (fun i H' => ExtN H H' ∧ Tabs T H' ∧ H' D = some (.lst ((List.replicate i true).map V.bl)))
      ⟨ExtN.of (Same.new hD), hT.ext (Same.new hD), upd_same⟩ (fun i H' hi p => ?_) (fun H' p => ?_)⟩
    · obtain ⟨x, t, hd⟩ := p
      refine ⟨rfl, _, rfl, _, rfl, a, ns, i, by show [V.ref a, V.int (0 + (i : Int))] = _; rw [Int.zero_add], by omega, sq_ext x hS, hl, fun H3 p hp s3 hj => ⟨p, rfl, hj, t.ext s3, fun H4 t4 k4 => ?_⟩⟩
      have pD : D ≠ p := ne_of_none hd hp
      have hd4 := k4 _ _ (s3 _ _ hd) pD (fun _ z => nomatch z)
      have kk : ∀ b o, H4 b = some o → b ≠ D → upd H4 D (.lst ((List.replicate i true).map V.bl ++ [V.bl true])) b = some o := fun b o e n => (upd_ne n).trans e
      refine ⟨_, hd4, ?_, fun c o e nt => kk c o (k4 c o (s3 _ _ (x c o e nt)) (ne_of_none (x c o e nt) hp) nt) (fun z => by rw [z, hD] at e; cases e), tabs_keep t4 hd4 kk, ?_⟩
      · rw [List.length_map, List.length_replicate]
        exact Nat.lt_of_lt_of_le (show i < 4 by omega) (by decide)
      · rw [upd_same, List.replicate_succ', List.map_append] <;> rfl
    · obtain ⟨x, t, hd⟩ := p
      refine ⟨D, List.replicate N.toNat true, rfl, .inl (.inl hd), ?_⟩
      have e : (List.replicate N.toNat true).all id = true := by
        rw [List.all_eq_true]
        intro b hb
        exact (List.mem_replicate.mp hb).2
      rw [e]
      exact hQ H'
end
end K41
namespace K41
open PySem PySem.Spec PyProof.Rows L2 Tc Evl
open LamX (tLam LamS lamCx lamEnv Tabs TabB ExtN TabS)
theorem allB {α : Type} {l : List α} {p : α → Bool} (h : l.all p = true) {x : α} (hx : x ∈ l) : p x = true := List.all_eq_true.mp h x hx
theorem vals_rev : ∀ {vs : List V} {us : List Value}, Vals vs us → Vals vs.reverse us.reverse
  | _, _, .nil => .nil
  | _, _, .cons (a := a) (b := b) r h => by
    rw [List.reverse_cons, List.reverse_cons]
    exact Vals.append (vals_rev h) (.cons r .nil)
theorem vals_pm : ∀ {vs : List V} {us : List Value}, Vals vs us → Vals (pmT vs) (pmT us)
  | _, _, .nil => .nil
  | _, _, .cons a .nil => .cons a .nil
  | _, _, .cons a (.cons b .nil) => .cons a (.cons b .nil)
  | _, _, .cons a (.cons b (.cons c .nil)) => .cons a (.cons b (.cons c .nil))
  | _, _, .cons a (.cons b (.cons c (.cons d .nil))) => .cons b (.cons d (.cons a (.cons c .nil)))
  | _, _, .cons a (.cons b (.cons c (.cons d (.cons e r)))) => .cons a (.cons b (.cons c (.cons d (.cons e r))))
theorem beq_ref {a b : Addr} : ((Value.ref a) == (Value.ref b)) = decide (a = b) := by
  by_cases e : a = b
  · subst e
    simp
  · rw [decide_eq_false e]
    exact beq_eq_false_iff_ne.mpr fun z => e (Value.ref.inj z)
/-- the name of a lambda of the def -/
def lamN (x : Str) (st : Stmt) : Str := (envOfC x (defScope st) 0 0 (.ref 0)).qual ++ "<lambda>"
/-- the tables' list -/
def tabL (K : PySem.W.Frag) : List (Addr × Str) := [((He.cT K ("_law_refused_right", none)).2, lamN "_law_refused_right" s_refused)]
section
variable {K : PySem.W.Frag} {h : Heap} {mg : Str → Option Value}
structure Parts (K : PySem.W.Frag) : Prop where
  exk : ∀ e ∈ exs, exkB K e.2.2.1 e.1 e.2.1 = true
  exa : ∀ e ∈ alls, exaB K e.1 = true ∧ (He.Fa.glo e.1).ok K = true
  exs' : exsB K = true
  funs' : ∀ x ∈ funs, (He.Fa.glo x).ok K = true
  free : ∀ x ∈ frees, (He.Fa.free x).ok K = true
  nums' : ∀ e ∈ nums, (He.Fa.int e.1 e.2).ok K = true
  tg : (He.Fa.glo "_TIMES").ok K = true
  tt : He.tupB K "_TIMES" [.int 1, .int 10, .int 100] = true
  mros' : mros K = true
  sm : (K.lookup sysModules).isSome = true
theorem partsF (c : SaysM F fn K) : Parts K := by
  obtain ⟨z1, z⟩ := He.ba c.fact
  obtain ⟨z2, z⟩ := He.ba z
  obtain ⟨z3, z⟩ := He.ba z
  obtain ⟨z4, z⟩ := He.ba z
  obtain ⟨z5, z⟩ := He.ba z
  obtain ⟨z6, z⟩ := He.ba z
  obtain ⟨z7, z⟩ := He.ba z
  obtain ⟨z8, z⟩ := He.ba z
  obtain ⟨z9, z10⟩ := He.ba z
  exact ⟨fun e he => allB z1 he, fun e he => He.ba (allB z2 he), z3, fun x hx => allB z4 hx, fun x hx => allB z5 hx, fun e he => allB z6 he, z7, z8, z9, z10⟩
theorem mro_ok {x : Str} {l : List Value} (h : mroB K x l = true) : (∃ cd, PySem.W.clsIn K (He.ga K x) = some cd ∧ cd.mro = l) ∧ PySem.W.typeIn K (.ref (He.ga K x)) = some (.type "type") := by
  obtain ⟨z1, z2⟩ := He.ba h
  refine ⟨?_, of_decide_eq_true z2⟩
  cases w : PySem.W.clsIn K (He.ga K x) with
  | none =>
    rw [w] at z1
    cases z1
  | some cd =>
    rw [w] at z1
    exact ⟨cd, rfl, of_decide_eq_true z1⟩
theorem sub_ok {x : Str} {v0 : Value} {l : List Value} (h : mroB K x (v0 :: l) = true) (v : Value) : PySem.W.subIn K (.ref (He.ga K x)) v = some ((v0 :: l).contains v) := by
  obtain ⟨⟨cd, hc, hm⟩, _⟩ := mro_ok h
  show (PySem.W.clsIn K (He.ga K x)).bind _ = _
  rw [hc]
  show (if cd.mro.isEmpty then none else some (cd.mro.contains v)) = _
  rw [hm] <;> rfl
theorem kit_ok {x y : Str} {v0 w0 : Value} {l m : List Value} (h : mroB K x (v0 :: l) = true) (g : mroB K y (w0 :: m) = true) : PySem.W.kitCls K (.ref (He.ga K x)) (.ref (He.ga K y)) = some ((v0 :: l).contains (.ref (He.ga K y))) := by
  obtain ⟨⟨cd, hc, _⟩, ht⟩ := mro_ok g
  unfold PySem.W.kitCls
  show (if ((PySem.W.clsIn K (He.ga K y)).isSome && PySem.W.typeIn K (.ref (He.ga K y)) == some (.type "type")) = true then PySem.W.subIn K (.ref (He.ga K x)) (.ref (He.ga K y)) else none) = _
  rw [hc, ht]
  exact sub_ok h _
abbrev lst0 (K : PySem.W.Frag) (x : Str) : List Value := .ref (He.ga K x) :: .ref (He.ga K "WrongValue") :: Kin.v.mro
theorem mro_x (c : Parts K) {e : Str × Str × Kin × Nat} (h : e ∈ exs) : mroB K e.1 ([.ref (He.ga K e.1), .ref (He.ga K "WrongValue")] ++ e.2.2.1.mro) = true := allB (He.ba c.mros').1 h
theorem exm_ok {x y : Str} {v0 w0 : Value} {l m : List Value} (h : mroB K x (v0 :: l) = true) (g : mroB K y (w0 :: m) = true) (b : (w0 :: m).contains (.type "BaseException") = true) : PySem.W.exmOne K (.ref (He.ga K x)) (.ref (He.ga K y)) = some ((v0 :: l).contains (.ref (He.ga K y))) := by
  unfold PySem.W.exmOne
  rw [sub_ok g, b]
  show (if (some true == some true) = true then _ else none) = _
  rw [if_pos (by decide)]
  exact kit_ok h g
/-- a class of errors -/
def IsX (x : Str) : Prop := x = "InvalidNumber" ∨ x = "InvalidPeople" ∨ x = "InvalidPlaces" ∨ x = "InvalidScale"
theorem mro_i (c : Parts K) {x : Str} (hx : IsX x) : mroB K x (lst0 K x) = true := by
  rcases hx with rfl | rfl | rfl | rfl
  · exact mro_x c (e := ex1 "InvalidNumber" "given" .v 2) (by unfold exs; exact (.head _))
  · exact mro_x c (e := ex1 "InvalidPeople" "given" .v 3) (by unfold exs; exact (.tail _ (.head _)))
  · exact mro_x c (e := ex1 "InvalidPlaces" "given" .v 4) (by unfold exs; exact (.tail _ (.tail _ (.head _))))
  · exact mro_x c (e := ex1 "InvalidScale" "given" .v 5) (by unfold exs; exact (.tail _ (.tail _ (.tail _ (.head _)))))
theorem ga_ne (c : Parts K) {i j : Nat} {e1 e2 : Str × Kin} (h1 : alls[i]? = some e1) (h2 : alls[j]? = some e2) (n : i ≠ j) : He.ga K e1.1 ≠ He.ga K e2.1 := fun e => by
  have nd : (alls.map fun e => He.ga K e.1).Nodup := of_decide_eq_true (He.ba (He.ba c.mros').2).2
  have a1 : (alls.map fun e => He.ga K e.1)[i]? = some (He.ga K e1.1) := by rw [List.getElem?_map, h1] <;> rfl
  have a2 : (alls.map fun e => He.ga K e.1)[j]? = some (He.ga K e2.1) := by rw [List.getElem?_map, h2] <;> rfl
  rw [← e] at a2
  have li : i < (alls.map fun e => He.ga K e.1).length := (List.getElem?_eq_some_iff.mp a1).1
  exact n ((List.getElem?_inj li nd).mp (a1.trans a2.symm))
theorem nd4 (c : Parts K) : [He.ga K "InvalidPeople", He.ga K "InvalidScale", He.ga K "InvalidNumber", He.ga K "InvalidPlaces"].Nodup := by
  have t : ∀ i j : Nat, i ≠ j → ∀ e1 e2 : Str × Kin, alls[i]? = some e1 → alls[j]? = some e2 → He.ga K e1.1 ≠ He.ga K e2.1 := fun i j n e1 e2 h1 h2 => ga_ne c h1 h2 n
  have a := t 1 3 (by decide) _ _ rfl rfl
  have b := t 1 0 (by decide) _ _ rfl rfl
  have d := t 1 2 (by decide) _ _ rfl rfl
  have e := t 3 0 (by decide) _ _ rfl rfl
  have f := t 3 2 (by decide) _ _ rfl rfl
  have g := t 0 2 (by decide) _ _ rfl rfl
  simp only [List.nodup_cons, List.mem_cons, List.not_mem_nil, or_false, not_or, not_false_eq_true, List.nodup_nil, and_true]
  exact ⟨⟨a, b, d⟩, ⟨e, f⟩, g⟩
theorem hx_of (X : K.In h) (G : h.Ns mainGlobals mg) (c : Parts K) : Hx K mg (He.ga K "InvalidPeople") (He.ga K "InvalidScale") (He.ga K "InvalidNumber") (He.ga K "InvalidPlaces") := by
  have gl : ∀ e ∈ alls, mg e.1 = some (.ref (He.ga K e.1)) := fun e he => He.glo_ok X G (c.exa e he).2
  have fr : ∀ x : Str, x ∈ frees → mg x = none := fun x hx => He.free_ok X G (c.free x hx)
  have nm : ∀ C, In4 (He.ga K "InvalidPeople") (He.ga K "InvalidScale") (He.ga K "InvalidNumber") (He.ga K "InvalidPlaces") C → ∃ x : Str, IsX x ∧ C = He.ga K x := fun C hC => by
    rcases hC with e | e | e | e
    · exact ⟨_, .inr (.inl rfl), e⟩
    · exact ⟨_, .inr (.inr (.inr rfl)), e⟩
    · exact ⟨_, .inl rfl, e⟩
    · exact ⟨_, .inr (.inr (.inl rfl)), e⟩
  have n3 : ∀ a : Addr, Kin.v.mro.contains (.ref a) = false := fun a => rfl
  have at_ : ∀ x : Str, IsX x → ∃ i e, alls[i]? = some e ∧ e.1 = x ∧ i < 4 := fun x hx => by
    rcases hx with rfl | rfl | rfl | rfl
    · exact ⟨0, _, rfl, rfl, by decide⟩
    · exact ⟨1, _, rfl, rfl, by decide⟩
    · exact ⟨2, _, rfl, rfl, by decide⟩
    · exact ⟨3, _, rfl, rfl, by decide⟩
  have nb : ∀ x : Str, IsX x → He.ga K x ≠ He.ga K "WrongValue" := fun x hx => by
    obtain ⟨i, e, h1, rfl, hi⟩ := at_ x hx
    exact ga_ne c h1 (j := 4) (e2 := al1 "WrongValue" .v) rfl (by omega)
  have con : ∀ (x : Str) (a : Addr), (lst0 K x).contains (.ref a) = (decide (a = He.ga K x) || decide (a = He.ga K "WrongValue")) := fun x a => by
    rw [List.contains_cons, List.contains_cons, beq_ref, beq_ref, n3, Bool.or_false]
  refine ⟨gl (al1 "InvalidPeople" .v) (by unfold alls; exact (.tail _ (.head _))), gl (al1 "InvalidScale" .v) (by unfold alls; exact (.tail _ (.tail _ (.tail _ (.head _))))), gl (al1 "InvalidNumber" .v) (by unfold alls; exact (.head _)), gl (al1 "InvalidPlaces" .v) (by unfold alls; exact (.tail _ (.tail _ (.head _)))), fr _ (by decide +kernel), fun C D hC hD => ?_, fun C hC => ?_, fun C hC => ?_⟩
  · obtain ⟨x, hx, rfl⟩ := nm C hC
    obtain ⟨y, hy, rfl⟩ := nm D hD
    have bas : ∀ y : Str, (lst0 K y).contains (.type "BaseException") = true := fun y => rfl
    rw [exm_ok (mro_i c hx) (mro_i c hy) (bas y), con, decide_eq_false (nb y hy), Bool.or_false]
    exact congrArg some (decide_eq_decide.mpr ⟨fun e => e.symm, fun e => e.symm⟩)
  · obtain ⟨x, hx, rfl⟩ := nm C hC
    rcases hx with rfl | rfl | rfl | rfl
    · exact exaB_ok (c.exa (al1 "InvalidNumber" .v) (by unfold alls; exact (.head _))).1 c.exs'
    · exact exaB_ok (c.exa (al1 "InvalidPeople" .v) (by unfold alls; exact (.tail _ (.head _)))).1 c.exs'
    · exact exaB_ok (c.exa (al1 "InvalidPlaces" .v) (by unfold alls; exact (.tail _ (.tail _ (.head _))))).1 c.exs'
    · exact exaB_ok (c.exa (al1 "InvalidScale" .v) (by unfold alls; exact (.tail _ (.tail _ (.tail _ (.head _)))))).1 c.exs'
  · obtain ⟨x, hx, rfl⟩ := nm C hC
    rcases hx with rfl | rfl | rfl | rfl
    · exact (exkB_ok (c.exk (ex1 "InvalidNumber" "given" .v 2) (by unfold exs; exact (.head _)))).noF
    · exact (exkB_ok (c.exk (ex1 "InvalidPeople" "given" .v 3) (by unfold exs; exact (.tail _ (.head _))))).noF
    · exact (exkB_ok (c.exk (ex1 "InvalidPlaces" "given" .v 4) (by unfold exs; exact (.tail _ (.tail _ (.head _)))))).noF
    · exact (exkB_ok (c.exk (ex1 "InvalidScale" "given" .v 5) (by unfold exs; exact (.tail _ (.tail _ (.tail _ (.head _))))))).noF
theorem rs0 (X : K.In h) (G : h.Ns mainGlobals mg) (s : SaysM F fn K) (c : Parts K) : Rs K mg "InvalidNumber" (He.ga K "InvalidNumber") := by
  have gl : ∀ e ∈ alls, mg e.1 = some (.ref (He.ga K e.1)) := fun e he => He.glo_ok X G (c.exa e he).2
  refine ⟨?_, ?_, (mro_ok (mro_i (x := "InvalidNumber") c (.inl rfl))).2⟩
  · obtain ⟨fd, Fi⟩ := s.fun_ 29 (st := inClass (topS 2) 0) (p := ("InvalidNumber", some "__init__")) (x := "__init__") (q := "InvalidNumber.__init__") rfl
    refine ⟨⟨_, _, _, _, _, _, fd, exkB_ok (c.exk (ex1 "InvalidNumber" "given" .v 2) (by unfold exs; exact (.head _))), .inl rfl, init_of Fi rfl rfl, ?_, ?_⟩, gl (al1 "InvalidNumber" .v) (by unfold alls; exact (.head _))⟩
    · obtain ⟨oc, od, kV, doc, pm, an, cdv, ct, osl, rfl, lk, hcd⟩ := Fi.ex
      exact fun u s y => .of_eq rfl
    · obtain ⟨oc, od, kV, doc, pm, an, cdv, ct, osl, rfl, lk, hcd⟩ := Fi.ex
      exact fun u s y => .of_eq rfl
  · rw [sub_ok (mro_i (x := "InvalidNumber") c (.inl rfl))] <;> rfl
theorem rs1 (X : K.In h) (G : h.Ns mainGlobals mg) (s : SaysM F fn K) (c : Parts K) : Rs K mg "InvalidPeople" (He.ga K "InvalidPeople") := by
  have gl : ∀ e ∈ alls, mg e.1 = some (.ref (He.ga K e.1)) := fun e he => He.glo_ok X G (c.exa e he).2
  refine ⟨?_, ?_, (mro_ok (mro_i (x := "InvalidPeople") c (.inr (.inl rfl)))).2⟩
  · obtain ⟨fd, Fi⟩ := s.fun_ 30 (st := inClass (topS 3) 0) (p := ("InvalidPeople", some "__init__")) (x := "__init__") (q := "InvalidPeople.__init__") rfl
    refine ⟨⟨_, _, _, _, _, _, fd, exkB_ok (c.exk (ex1 "InvalidPeople" "given" .v 3) (by unfold exs; exact (.tail _ (.head _)))), .inl rfl, init_of Fi rfl rfl, ?_, ?_⟩, gl (al1 "InvalidPeople" .v) (by unfold alls; exact (.tail _ (.head _)))⟩
    · obtain ⟨oc, od, kV, doc, pm, an, cdv, ct, osl, rfl, lk, hcd⟩ := Fi.ex
      exact fun u s y => .of_eq rfl
    · obtain ⟨oc, od, kV, doc, pm, an, cdv, ct, osl, rfl, lk, hcd⟩ := Fi.ex
      exact fun u s y => .of_eq rfl
  · rw [sub_ok (mro_i (x := "InvalidPeople") c (.inr (.inl rfl)))] <;> rfl
theorem rs2 (X : K.In h) (G : h.Ns mainGlobals mg) (s : SaysM F fn K) (c : Parts K) : Rs K mg "InvalidPlaces" (He.ga K "InvalidPlaces") := by
  have gl : ∀ e ∈ alls, mg e.1 = some (.ref (He.ga K e.1)) := fun e he => He.glo_ok X G (c.exa e he).2
  refine ⟨?_, ?_, (mro_ok (mro_i (x := "InvalidPlaces") c (.inr (.inr (.inl rfl))))).2⟩
  · obtain ⟨fd, Fi⟩ := s.fun_ 31 (st := inClass (topS 4) 0) (p := ("InvalidPlaces", some "__init__")) (x := "__init__") (q := "InvalidPlaces.__init__") rfl
    refine ⟨⟨_, _, _, _, _, _, fd, exkB_ok (c.exk (ex1 "InvalidPlaces" "given" .v 4) (by unfold exs; exact (.tail _ (.tail _ (.head _))))), .inl rfl, init_of Fi rfl rfl, ?_, ?_⟩, gl (al1 "InvalidPlaces" .v) (by unfold alls; exact (.tail _ (.tail _ (.head _))))⟩
    · obtain ⟨oc, od, kV, doc, pm, an, cdv, ct, osl, rfl, lk, hcd⟩ := Fi.ex
      exact fun u s y => .of_eq rfl
    · obtain ⟨oc, od, kV, doc, pm, an, cdv, ct, osl, rfl, lk, hcd⟩ := Fi.ex
      exact fun u s y => .of_eq rfl
  · rw [sub_ok (mro_i (x := "InvalidPlaces") c (.inr (.inr (.inl rfl))))] <;> rfl
theorem rs3 (X : K.In h) (G : h.Ns mainGlobals mg) (s : SaysM F fn K) (c : Parts K) : Rs K mg "InvalidScale" (He.ga K "InvalidScale") := by
  have gl : ∀ e ∈ alls, mg e.1 = some (.ref (He.ga K e.1)) := fun e he => He.glo_ok X G (c.exa e he).2
  refine ⟨?_, ?_, (mro_ok (mro_i (x := "InvalidScale") c (.inr (.inr (.inr rfl))))).2⟩
  · obtain ⟨fd, Fi⟩ := s.fun_ 32 (st := inClass (topS 5) 0) (p := ("InvalidScale", some "__init__")) (x := "__init__") (q := "InvalidScale.__init__") rfl
    refine ⟨⟨_, _, _, _, _, _, fd, exkB_ok (c.exk (ex1 "InvalidScale" "given" .v 5) (by unfold exs; exact (.tail _ (.tail _ (.tail _ (.head _)))))), .inl rfl, init_of Fi rfl rfl, ?_, ?_⟩, gl (al1 "InvalidScale" .v) (by unfold alls; exact (.tail _ (.tail _ (.tail _ (.head _)))))⟩
    · obtain ⟨oc, od, kV, doc, pm, an, cdv, ct, osl, rfl, lk, hcd⟩ := Fi.ex
      exact fun u s y => .of_eq rfl
    · obtain ⟨oc, od, kV, doc, pm, an, cdv, ct, osl, rfl, lk, hcd⟩ := Fi.ex
      exact fun u s y => .of_eq rfl
  · rw [sub_ok (mro_i (x := "InvalidScale") c (.inr (.inr (.inr rfl))))] <;> rfl
/-- a def's code object -/
theorem code_at {x qual : Str} {st : Stmt} {fd : FuncData} {p : Str × Option Str} {f : Addr} (F : Fun K x qual st f fd) (e : f = He.fAd K p) : ∃ c, fd.code = .ref c ∧ (He.cT K p).1 = c := by
  subst e
  obtain ⟨oc, od, kV, doc, pm, an, cdv, ct, osl, rfl, lk, hcd⟩ := F.ex
  obtain ⟨c, rfl⟩ := He.codeIn_ref hcd
  exact ⟨c, rfl, He.codeOf_eq lk rfl⟩
end
section
variable {P : Program} {w : World} {K : PySem.W.Frag} {h : Heap} {mg : Str → Option Value} {f : Addr}
theorem facts (X : K.In h) (G : h.Ns mainGlobals mg) (hfa : mg ("law" : Str) = some (.ref f)) (s : SaysM F fn K) :
    ∃ fd : FuncData, (∀ (s : Shared) (v : Value), BindsTo s fd ⟨[v], []⟩ [("_law_script", v)]) ∧
      ∀ base : Heap, K.In base → base.Ns mainGlobals mg → (∀ p ∈ tf.map (He.cT K), TabB base mg p.1 p.2) → FnG P w K mg base CX0 11 f fd ["_law_script"] (spLaw K (tabL K)) := by
  have c := partsF s
  have fr : ∀ x : Str, x ∈ frees → mg x = none := fun x hx => He.free_ok X G (c.free x hx)
  have B : Bl mg := ⟨fr _ (by decide +kernel), fr _ (by decide +kernel), fr _ (by decide +kernel), fr _ (by decide +kernel), fr _ (by decide +kernel), fr _ (by decide +kernel), fr _ (by decide +kernel), fr _ (by decide +kernel), fr _ (by decide +kernel), fr _ (by decide +kernel), fr _ (by decide +kernel), fr _ (by decide +kernel), fr _ (by decide +kernel)⟩
  have TM : Tm K mg (He.ga K "_TIMES") := ⟨He.glo_ok X G c.tg, fun H => He.tupB_ok c.tt H⟩
  have nMN : ∃ t, mg "MOST_NUMBER" = some (.int 4000 t) := He.int_ok X G (c.nums' ("MOST_NUMBER", 4000) (.head _))
  have nMS : ∃ t, mg "MOST_SCORE" = some (.int 6 t) := He.int_ok X G (c.nums' ("MOST_SCORE", 6) (.tail _ (.head _)))
  have nMM : ∃ t, mg "_MOST_MEANT" = some (.int 3000 t) := He.int_ok X G (c.nums' ("_MOST_MEANT", 3000) (.tail _ (.tail _ (.head _))))
  have TH := hx_of X G c
  have KD := kinds_of (nd4 c)
  have RN := rs0 X G s c
  have RP := rs1 X G s c
  have RL := rs2 X G s c
  have RS := rs3 X G s c
  have SM := Option.isSome_iff_exists.mp c.sm
  have gl : ∀ x : Str, x ∈ funs → mg x = some (.ref (He.ga K x)) := fun x hx => He.glo_ok X G (c.funs' x hx)
  obtain ⟨fd0, F0⟩ := s.fun_ 0 (st := s_is_integer) (p := ("is_integer", none)) (x := "is_integer") (q := "is_integer") rfl
  obtain ⟨fd1, F1⟩ := s.fun_ 1 (st := s_is_number) (p := ("is_number", none)) (x := "is_number") (q := "is_number") rfl
  obtain ⟨fd2, F2⟩ := s.fun_ 2 (st := s_is_stretch) (p := ("is_stretch", none)) (x := "is_stretch") (q := "is_stretch") rfl
  obtain ⟨fd3, F3⟩ := s.fun_ 3 (st := s_is_scale) (p := ("is_scale", none)) (x := "is_scale") (q := "is_scale") rfl
  obtain ⟨fd4, F4⟩ := s.fun_ 4 (st := s_need_scale) (p := ("need_scale", none)) (x := "need_scale") (q := "need_scale") rfl
  obtain ⟨fd5, F5⟩ := s.fun_ 5 (st := s_is_places) (p := ("is_places", none)) (x := "is_places") (q := "is_places") rfl
  obtain ⟨fd6, F6⟩ := s.fun_ 6 (st := s_need_places) (p := ("_need_places", none)) (x := "_need_places") (q := "_need_places") rfl
  obtain ⟨fd7, F7⟩ := s.fun_ 7 (st := s_need_people) (p := ("need_people", none)) (x := "need_people") (q := "need_people") rfl
  obtain ⟨fd8, F8⟩ := s.fun_ 8 (st := s_need_number) (p := ("_need_number", none)) (x := "_need_number") (q := "_need_number") rfl
  obtain ⟨fd9, F9⟩ := s.fun_ 9 (st := s_nearest) (p := ("nearest", none)) (x := "nearest") (q := "nearest") rfl
  obtain ⟨fd10, F10⟩ := s.fun_ 10 (st := s_mean_of) (p := ("mean_of", none)) (x := "mean_of") (q := "mean_of") rfl
  obtain ⟨fd11, F11⟩ := s.fun_ 11 (st := s_told_mean) (p := ("told_mean", none)) (x := "told_mean") (q := "told_mean") rfl
  obtain ⟨fd12, F12⟩ := s.fun_ 12 (st := s_totals_with) (p := ("_totals_with", none)) (x := "_totals_with") (q := "_totals_with") rfl
  obtain ⟨fd13, F13⟩ := s.fun_ 13 (st := s_totals_for) (p := ("totals_for", none)) (x := "totals_for") (q := "totals_for") rfl
  obtain ⟨fd14, F14⟩ := s.fun_ 14 (st := s_people_for_mean) (p := ("people_for_mean", none)) (x := "people_for_mean") (q := "people_for_mean") rfl
  obtain ⟨fd15, F15⟩ := s.fun_ 15 (st := s_pail) (p := ("_law_pail", none)) (x := "_law_pail") (q := "_law_pail") rfl
  obtain ⟨fd16, F16⟩ := s.fun_ 16 (st := s_sup) (p := ("_law_sup", none)) (x := "_law_sup") (q := "_law_sup") rfl
  obtain ⟨fd17, F17⟩ := s.fun_ 17 (st := s_any) (p := ("_law_any", none)) (x := "_law_any") (q := "_law_any") rfl
  obtain ⟨fd18, F18⟩ := s.fun_ 18 (st := s_natural) (p := ("_law_natural", none)) (x := "_law_natural") (q := "_law_natural") rfl
  obtain ⟨fd19, F19⟩ := s.fun_ 19 (st := s_whole) (p := ("_law_whole", none)) (x := "_law_whole") (q := "_law_whole") rfl
  obtain ⟨fd20, F20⟩ := s.fun_ 20 (st := s_lis_scale) (p := ("_law_is_scale", none)) (x := "_law_is_scale") (q := "_law_is_scale") rfl
  obtain ⟨fd21, F21⟩ := s.fun_ 21 (st := s_ends) (p := ("_law_ends", none)) (x := "_law_ends") (q := "_law_ends") rfl
  obtain ⟨fd22, F22⟩ := s.fun_ 22 (st := s_ended) (p := ("_law_ended", none)) (x := "_law_ended") (q := "_law_ended") rfl
  obtain ⟨fd23, F23⟩ := s.fun_ 23 (st := s_due) (p := ("_law_due", none)) (x := "_law_due") (q := "_law_due") rfl
  obtain ⟨fd24, F24⟩ := s.fun_ 24 (st := s_refused) (p := ("_law_refused_right", none)) (x := "_law_refused_right") (q := "_law_refused_right") rfl
  obtain ⟨fd25, F25⟩ := s.fun_ 25 (st := s_people_right) (p := ("_law_people_right", none)) (x := "_law_people_right") (q := "_law_people_right") rfl
  obtain ⟨fd26, F26⟩ := s.fun_ 26 (st := s_right) (p := ("_law_right", none)) (x := "_law_right") (q := "_law_right") rfl
  obtain ⟨fd27, F27⟩ := s.fun_ 27 (st := s_law) (p := ("law", none)) (x := "law") (q := "law") rfl
  obtain ⟨fd28, F28⟩ := s.fun_ 28 (st := s_need_most) (p := ("need_most", none)) (x := "need_most") (q := "need_most") rfl
  obtain ⟨c24, hc24, e24⟩ := code_at F24 rfl
  have e := hfa.symm.trans (gl "law" (by decide +kernel))
  cases e
  refine ⟨fd27, fun s v => ?_, fun base _ _ TB => ?_⟩
  · obtain ⟨oc, od, kV, doc, pm, an, cdv, ct, osl, rfl, lk, hcd⟩ := F27.ex
    exact .of_eq rfl
  generalize hCP : He.ga K "InvalidPeople" = CP at *
  generalize hCS : He.ga K "InvalidScale" = CS at *
  generalize hCN : He.ga K "InvalidNumber" = CN at *
  generalize hCL : He.ga K "InvalidPlaces" = CL at *
  have TBs : ∀ p ∈ ([(c24, (He.cT K ("_law_refused_right", none)).2)] : List (Addr × Addr)), TabB base mg p.1 p.2 := by
    rw [← e24]
    exact TB
  have u1 : ∀ p ∈ tabL K, p.1 = (He.cT K ("_law_refused_right", none)).2 → p.2 = lamN "_law_refused_right" s_refused := by
    intro p hp
    unfold tabL at hp
    simp only [List.mem_cons, List.not_mem_nil, or_false] at hp
    subst hp
    exact fun _ => rfl
  have DII := CallO.of F0 (ok_is_integer (P := P) (w := w) (base := base) F0 B) (gl "is_integer" (by decide +kernel)) (fun kV doc pm an cdv ct us hl => match us, hl with | [u], _ => rfl)
  have DNU := CallO.of F1 (ok_is_number F1 DII) (gl "is_number" (by decide +kernel)) (fun kV doc pm an cdv ct us hl => match us, hl with | [u], _ => rfl)
  have DST := CallO.of F2 (ok_is_stretch F2 B B.tuple nMN DII) (gl "is_stretch" (by decide +kernel)) (fun kV doc pm an cdv ct us hl => match us, hl with | [u], _ => rfl)
  have DSC := CallO.of F3 (ok_is_scale F3 nMS DST) (gl "is_scale" (by decide +kernel)) (fun kV doc pm an cdv ct us hl => match us, hl with | [u], _ => rfl)
  have DNS := CallO.of F4 (ok_need_scale F4 RS DSC) (gl "need_scale" (by decide +kernel)) (fun kV doc pm an cdv ct us hl => match us, hl with | [u], _ => rfl)
  have DPL := CallO.of F5 (ok_is_places F5 B TM DNU) (gl "is_places" (by decide +kernel)) (fun kV doc pm an cdv ct us hl => match us, hl with | [u], _ => rfl)
  have DNP := CallO.of F6 (ok_need_places F6 RL DPL) (gl "_need_places" (by decide +kernel)) (fun kV doc pm an cdv ct us hl => match us, hl with | [u], _ => rfl)
  have DNMo := CallO.of F28 (ok_need_most F28 RN nMM DII) (gl "need_most" (by decide +kernel)) (fun kV doc pm an cdv ct us hl => match us, hl with | [u], _ => rfl)
  have DPE := CallO.of F7 (ok_need_people F7 RP DII) (gl "need_people" (by decide +kernel)) (fun kV doc pm an cdv ct us hl => match us, hl with | [u, v], _ => rfl)
  have DNN := CallO.of F8 (ok_need_number F8 RN DNU) (gl "_need_number" (by decide +kernel)) (fun kV doc pm an cdv ct us hl => match us, hl with | [u], _ => rfl)
  have DNE := CallO.of F9 (ok_nearest (P := P) (w := w) (base := base) F9) (gl "nearest" (by decide +kernel)) (fun kV doc pm an cdv ct us hl => match us, hl with | [u, v], _ => rfl)
  have DME := CallO.of F10 (ok_mean_of F10 TM DNE) (gl "mean_of" (by decide +kernel)) (fun kV doc pm an cdv ct us hl => match us, hl with | [u, v, x1], _ => rfl)
  have DTM := CallO.of F11 (ok_told_mean F11 DPE DNN DNP DME) (gl "told_mean" (by decide +kernel)) (fun kV doc pm an cdv ct us hl => match us, hl with | [u, v, x1], _ => rfl)
  have DTW := CallO.of F12 (ok_totals_with (P := P) (w := w) (base := base) F12 B TM) (gl "_totals_with" (by decide +kernel)) (fun kV doc pm an cdv ct us hl => match us, hl with | [u, v, x1, x2], _ => rfl)
  have okTF := ok_totals_for (P := P) (w := w) (base := base) F13 B nMM DPE DNS DNN DNP DTW
  have okPM := ok_people_for_mean (P := P) (w := w) (base := base) F14 B DNS DNN DNP DNMo DTW
  have DTF := CallO.of F13 (okTF) (gl "totals_for" (by decide +kernel)) (fun kV doc pm an cdv ct us hl => match us, hl with | [u, v, x1, x2], _ => rfl)
  have DPM := CallO.of F14 (okPM) (gl "people_for_mean" (by decide +kernel)) (fun kV doc pm an cdv ct us hl => match us, hl with | [u, v, x1, x2], _ => rfl)
  have DTFK : CallK P w K mg base (L2.CX P w) 5 "totals_for" ["people", "scale", "mean", "places"] (spTF CP CS CN CL) ["mean", "people", "places", "scale"] (pmT) := by
    refine ⟨⟨_, fd13, okTF, (gl "totals_for" (by decide +kernel)), F13.kp, fun s us hl => ?_⟩, vals_pm⟩
    obtain ⟨oc, od, kV, doc, pm, an, cdv, ct, osl, rfl, lk, hcd⟩ := F13.ex
    match us, hl with
    | [u, v, x1, x2], _ => exact .of_eq rfl
  have DPMK : CallK P w K mg base (L2.CX P w) 5 "people_for_mean" ["scale", "mean", "places", "most"] (spPM CS CN CL) ["most", "places", "mean", "scale"] (List.reverse) := by
    refine ⟨⟨_, fd14, okPM, (gl "people_for_mean" (by decide +kernel)), F14.kp, fun s us hl => ?_⟩, vals_rev⟩
    obtain ⟨oc, od, kV, doc, pm, an, cdv, ct, osl, rfl, lk, hcd⟩ := F14.ex
    match us, hl with
    | [u, v, x1, x2], _ => exact .of_eq rfl
  have DJ := Call.of F15 (.of (ok_pail (P := P) (w := w) (base := base) F15 B)) (gl "_law_pail" (by decide +kernel)) (fun kV doc pm an cdv ct us hl => match us, hl with | [u, v], _ => rfl)
  have DS := CallO.of F16 (ok_sup (P := P) (w := w) (base := base) F16 B) (gl "_law_sup" (by decide +kernel)) (fun kV doc pm an cdv ct us hl => match us, hl with | [u, v], _ => rfl)
  have DA := CallO.of F17 (ok_any F17 B DS) (gl "_law_any" (by decide +kernel)) (fun kV doc pm an cdv ct us hl => match us, hl with | [u, v], _ => rfl)
  have DN := CallO.of F18 (ok_natural (P := P) (w := w) (base := base) F18 B) (gl "_law_natural" (by decide +kernel)) (fun kV doc pm an cdv ct us hl => match us, hl with | [u], _ => rfl)
  have DW := CallO.of F19 (ok_whole (P := P) (w := w) (base := base) F19 B) (gl "_law_whole" (by decide +kernel)) (fun kV doc pm an cdv ct us hl => match us, hl with | [u, v, x1], _ => rfl)
  have DLS := CallO.of F20 (ok_lis_scale F20 B DW) (gl "_law_is_scale" (by decide +kernel)) (fun kV doc pm an cdv ct us hl => match us, hl with | [u], _ => rfl)
  have DE := CallO.of F21 (ok_ends (P := P) (w := w) (base := base) F21 B) (gl "_law_ends" (by decide +kernel)) (fun kV doc pm an cdv ct us hl => match us, hl with | [u, v, x1, x2], _ => rfl)
  have DD := Call.of F23 (ok_due F23 B SM DN DW DLS) (gl "_law_due" (by decide +kernel)) (fun kV doc pm an cdv ct us hl => match us, hl with | [u, v, x1, x2, x3], _ => rfl)
  have DRF := Call.of F24 (ok_refused F24 hc24 B SM F22 (gl "_law_ended" (by decide +kernel)) TH KD (TBs _ (.head _)) (.head _) u1 DS DA DD DTFK DPM) (gl "_law_refused_right" (by decide +kernel)) (fun kV doc pm an cdv ct us hl => match us, hl with | [u, v, x1, x2, x3, x4], _ => rfl)
  have DPR := CallO.of F25 (ok_people_right F25 B DE DPM DPMK) (gl "_law_people_right" (by decide +kernel)) (fun kV doc pm an cdv ct us hl => match us, hl with | [u, v, x1, x2], _ => rfl)
  have DR := Call.of F26 (ok_rt F26 B DS DA DE DTF DTM DPR DRF) (gl "_law_right" (by decide +kernel)) (fun kV doc pm an cdv ct us hl => match us, hl with | [u], _ => rfl)
  exact ok_law F27 B DJ DR
end
end K41
namespace K41
open PySem PySem.Spec PyProof.Rows L2 Tc
open LamX (Tabs TabS)
theorem tabs0 {K : PySem.W.Frag} {H : Hp} (h : ∀ p ∈ tf.map (He.cT K), H p.2 = some (.tbl #[])) : Tabs (tabL K) H := by
  intro p hp
  unfold tabL at hp
  simp only [List.mem_cons, List.not_mem_nil, or_false] at hp
  subst hp
  exact TabS.nil (h (He.cT K ("_law_refused_right", none)) (.head _))
end K41
open PySem PySem.W PySem.Calls PyProof.Rows
theorem PySem.Challenge.cw_toldcounts_k41_whole_totals_and_people_f_holds : PySem.Challenge.rw_toldcounts_k41_whole_totals_and_people_f.Holds := by
  w_on; o_law
  refine HandSHeadRun.head_any (r := OpenLaw.row PySem.Challenge.rw_toldcounts_k41_whole_totals_and_people_f) (q := view K41.R.prog [42]) (H := K41.hk) (ob := K41.ob)
    (M := 14000) (loose := K41.loose) (d := HandSHeadRun.topDef K41.R.prog 42) (kwd := []) K41.ob_eq
    (by kernel_rfl) (fun s => by kernel_rfl) K41.run (by kernel_rfl) (by kernel_rfl) (by kernel_rfl) (by rfl) (by first | assumption | decide +kernel) (by decide +kernel)
    ⟨rfl, rfl, rfl, rfl, rfl, by decide +kernel⟩ ?hw ?hc
  case hw => w_witness2
  case hc =>
    refine Tc.walk_endTG (l := PySem.Challenge.rw_toldcounts_k41_whole_totals_and_people_f) (n := 63) (k := 11) (x := "_law_script") (CX := fun _ => L2.CX0)
      rfl (by decide) (by kernel_rfl) ⟨rfl, by decide, by decide⟩ ?F (fun _ _ _ _ _ z => z)
    intro w mg fa h Y G hmg0
    obtain ⟨K, KX, c⟩ := Y
    have nm : (HandSHeadRun.topDef K41.R.prog 42).name = ("law" : PySem.Str) := by kernel_rfl
    rw [nm] at hmg0
    obtain ⟨fd, hb, hF⟩ := K41.facts (P := (PySem.Challenge.rw_toldcounts_k41_whole_totals_and_people_f).prog) (w := w) KX G hmg0 c.core
    refine ⟨K, fd, K41.tf.map (He.cT K), K41.spLaw K (K41.tabL K), KX, hb, ⟨fun p hp => ?_, fun p hp => ?_, fun p hp => ?_⟩, hF, fun H a ns hl hT hS => ⟨a, ns, rfl, hS, hl, K41.tabs0 hT, fun _ => rfl⟩⟩
    · obtain ⟨q, hq, rfl⟩ := List.mem_map.mp hp
      exact c.empty q hq
    · obtain ⟨q, hq, rfl⟩ := List.mem_map.mp hp
      exact c.out q hq
    · obtain ⟨q, hq, rfl⟩ := List.mem_map.mp hp
      exact PySem.W.codeHd_of_K KX (c.hd q hq)
