import PyProof.Rows.All
import Wide.All
import OpenK.AllK
import Wide.FinOn
import HandS.ForMost
import HandS.ForExc
import HandS.ExcInit
import HandS.ExcField
import HandS.IsInst
import HandS.StrMore
import HandS.FStr
import HandS.Conv
import KE.KExcInit
import HandS.ExcIs
import KE.KExcIs
import HandS.ExcValue
import PyProof.ExcBaseAll.ValueError
import PyProof.ExcBaseAll.LookupError
import PyProof.ExcBaseAll.ArithmeticError
import KE.KStateDown
import HandS.Defaults
import HandS.Head0
import HandS.Head1
import HandS.Head2
import HandS.HeadHook1
import KE.KTryMore
import HandS.Exc
import HandS.Lambda
import HandS.WordsExc
import HandS.SetFor
import HandS.Evl
import PyProof.EqKinds
import HandS.Walk
import PyProof.Rows.Chain
import HandS.HeadHook4
import HandS.EndTab
import HandS.Text
import KE.IntTextText
import PyProof.Rows.RegFStrParts
import PyProof.ListStr
import HandS.HeadHook2
import HandS.WideBits
import HandS.NoneIn
import HandS.HeadEnd
import PySem.Challenge.RW_toldcounts_k40_whole_told_means_and_spre
set_option Elab.async false
set_option linter.all false
set_option maxRecDepth 100000
set_option maxHeartbeats 0
/-! Defs that may show things: no repr runs around them (the guards are known to be none). -/
namespace Tc
open PySem PySem.Spec PyProof.Rows L2

/-- as a def's promise, for callers that no repr runs around -/
structure FnG (P : Program) (w : World) (K : PySem.W.Frag) (mg : Str → Option Value) (base : Heap)
    (CX : CXT) (k : Nat) (f : Addr) (fd : FuncData) (ps : List Str) (sp : Sp) : Prop where
  len : ∀ vs H Q E, sp vs H Q E → vs.length = ps.length
  run : ∀ (A : Around) (outer : List Env) (s : Shared) (H : Hp) (args : Args) (us : List Value)
    (vs : List V) (Q : VK) (E : XK), Room k A → A.guards = some [] →
    Env0 P w K mg base A outer s H → BindsTo s fd args (ps.zip us) → Vals vs us → sp vs H Q E →
    codeAny (model P w) A (.call (.ref f) args) (CR CX outer P w H s Q E) s

theorem FnG.of {P : Program} {w : World} {K : PySem.W.Frag} {mg : Str → Option Value} {base : Heap}
    {CX : CXT} {k : Nat} {f : Addr} {fd : FuncData} {ps : List Str} {sp : Sp}
    (F : FnOk P w K mg base CX k f fd ps sp) : FnG P w K mg base CX k f fd ps sp :=
  ⟨F.len, fun A o s H args us vs Q E hr _ => F.run A o s H args us vs Q E hr⟩

theorem FnG.mono {P : Program} {w : World} {K : PySem.W.Frag} {mg : Str → Option Value} {base : Heap}
    {CX : CXT} {j k : Nat} {f : Addr} {fd : FuncData} {ps : List Str} {sp : Sp}
    (F : FnG P w K mg base CX j f fd ps sp) (h : j ≤ k) : FnG P w K mg base CX k f fd ps sp :=
  ⟨F.len, fun A o s H args us vs Q E hr => F.run A o s H args us vs Q E (hr.mono h)⟩

section
variable {P : Program} {w : World} {K : PySem.W.Frag} {mg : Str → Option Value} {base : Heap}
theorem Fun.okG {CX : CXT} {x qual : Str} {st : Stmt} {f : Addr} {fd : FuncData} {N ps : List Str}
    {k : Nat} {sp : Sp} (F : Fun K x qual st f fd) (S : FnScope N ps (defScope st))
    (len : ∀ vs H Q E, sp vs H Q E → vs.length = ps.length)
    (hbody : ∀ (cdv : Value) (A : Around) (outer : List Env) (s : Shared) (H : Hp) (vs : List V)
      (Q : VK) (E : XK), Room k (A.deeper (envOfC qual (defScope st) s.heap.objs.size f cdv)) →
      (A.deeper (envOfC qual (defScope st) s.heap.objs.size f cdv)).guards = some [] →
      sp vs H Q E →
      ∃ t, PSs (cxOf CX P w K mg base N qual (defScope st) f cdv A outer s H E) (defBody st) t ∧
        t { nx := fun _ H' => Q .non H', rt := Q } (start N vs) H) :
    FnG P w K mg base CX (k + 1) f fd ps sp := by
  obtain ⟨oc, od, kV, doc, pm, an, cdv, ct, osl, rfl, lk, hcd⟩ := F.ex
  refine ⟨len, ?_⟩
  intro A outer s H args us vs Q E hr hgd e0 hb r hsp
  have vl := len _ _ _ _ hsp
  have kin : K.In s.heap := e0.mod.kin.keeps (fun b o e => (e0.bs b o e).1)
  have nlim : s.heap.NoLimit := e0.mod.nolimit.keeps (fun b o e => (e0.bs b o e).1)
  have kinds : ∀ y ∈ ps.zip us, (defScope st).names.lookup y.1 = some .local ∨
      ((defScope st).names.lookup y.1 = some .cell ∧
        ((cellsFrom (s.heap.objs.size + 1) (defScope st).names []).lookup y.1).isSome = true) := by
    rintro ⟨n, v⟩ hy
    cases S.par n (List.of_mem_zip hy).1 with
    | inl q => exact .inl q
    | inr q => exact .inr ⟨q, PySem.W.cellsFrom_some _ _ _ (.inl q)⟩
  refine codeAny_call_function hr.depth (kin _ _ lk) rfl S.co S.gen rfl
    (PySem.W.codeRec_of kin hcd) (hb _ _ _ _ ?_)
  refine wpAny_newFunctionEnv_cells S.kind kinds (fun env he s1 x => ?_)
  subst he
  refine ⟨nlim.keeps x.toInCall.keep, codeAny_func ?_⟩
  obtain ⟨t, ht, hq⟩ := hbody cdv A outer s H vs Q E (hr.deeper _) hgd hsp
  have I := inv_start (CX := CX) (P := P) (w := w) (mg := mg) (base := base) (E := E) S hr.hd e0 vl r x
  refine wpAny_mono (ht.run [] s1 (start N vs) H _ I hq) (fun fl s' hs => ?_) (fun e s' hs => hs)
  have close : ∀ {σ' : L2.St} {H' : Hp} {v : V} {u : Value},
      Inv (cxOf CX P w K mg base N qual (defScope st) f cdv A outer s H E) [] σ' H' s' →
      RelV v u → Q v H' → CE outer P w H s Q u s' := by
    intro σ' H' v u J rv q
    exact ⟨v, H', J.os, J.bare, J.base, J.hok, rv, q⟩
  cases fl with
  | ret u => obtain ⟨v, σ', H', J, rv, q⟩ := hs; exact close J rv q
  | next => obtain ⟨σ', H', J, q⟩ := hs; exact close (v := V.non) (u := Value.none) J rfl q
  | brk => obtain ⟨_, _, _, q⟩ := hs; exact False.elim q
  | cont => obtain ⟨_, _, _, q⟩ := hs; exact False.elim q
end

section
variable {X : Cx} {CX : CXT} {k : Nat} {f : Addr} {fd : FuncData} {ps : List Str} {sp : Sp}
  {dvs : List V} {ds : List Value} {E : XK} {x : Str} {p pos : Pos} {e : Expr} {es : List Expr} {t : TA}

theorem run_fnG {pins : List (Addr × Obj)} {σ : L2.St} {H : Hp} {s : Shared} {Q : VK}
    {us : List Value} {vs : List V} (F : FnG X.prog X.w X.K X.mg X.base CX k f fd ps sp)
    (hr : Room k X.A) (hgd : X.A.guards = some []) (hb : Binds X.K fd ps ds) (hd : Vals dvs ds)
    (hx : Passes CX X E) (I : Inv X pins σ H s) (r : Vals vs us) (h : sp (vs ++ dvs) H Q E) :
    wpAny (model X.prog X.w) X.A (call (.ref f) us) (EP X pins σ Q) X.xe s := by
  have both : Vals (vs ++ dvs) (us ++ ds) := r.append hd
  have hl : (us ++ ds).length = ps.length := both.length ▸ F.len _ _ _ _ h
  have main := F.run X.A X.stack s H ⟨us, []⟩ (us ++ ds) (vs ++ dvs) Q E hr hgd I.env0
    (hb s us I.kIn hl) both h
  refine wpAny_call (codeAny_mono main ?_)
  intro res s' hq
  cases res with
  | error er => exact hx pins σ H s er s' I hq
  | ok fl =>
    cases fl with
    | ret u => exact I.after hq
    | next | brk | cont => exact False.elim hq

theorem pe_callG (F : FnG X.prog X.w X.K X.mg X.base CX k f fd ps sp) (hr : Room k X.A)
    (hgd : X.A.guards = some []) (hg : Gl X x) (hm : X.mg x = some (.ref f))
    (hk : PySem.W.keepIn X.K (.ref f) = true) (hb : Binds X.K fd ps ds) (hd : Vals dvs ds)
    (hx : Passes CX X E) (ha : PA X (e :: es) t)
    (hdb : (x == ("__debug__" : Str)) = false := by decide)
    (he : starEach (e :: es) X.env = (false, eval e X.env) :: starEach es X.env := by rfl)
    (hpl : (backTo pos (starEach es X.env)).any (·.1) = false := by rfl) :
    PE X (.Call (.Name x p) (e :: es) [] pos) (tCall sp dvs E t) := by
  constructor
  intro pins s σ H Q I h
  have args := ha.run pos pins s σ H _ I h
  refine wpAny_Call_Name_kw (ld_glob I hg hm ?_ hdb)
  refine PySem.W.callWith_K (h₀ := X.base) I.ok.mod.kin hk (thn args ?_) he hpl
  rintro us s1 ⟨vs, H1, I1, r, q⟩
  exact ⟨I1.kIn, run_fnG F hr hgd hb hd hx I1 r q⟩
end
end Tc
/-! Data at any depth, dicts too; what repr makes of them. -/
namespace Tc
open PySem PySem.Spec PyProof.Rows L2

def kD : Key → PyData
  | .inl i => .int i
  | .inr x => .str x

mutual
/-- the value is this data, all of it tracked -/
inductive Dv (H : Hp) : V → PyData → Prop
  | non : Dv H .non .none
  | bl (b : Bool) : Dv H (.bl b) (.bool b)
  | int (i : Int) : Dv H (.int i) (.int i)
  | str (x : Str) : Dv H (.str x) (.str x)
  | lst {a : Addr} {xs : List V} {ds : List PyData} : Rd H a (.lst xs) → DvAll H xs ds → Dv H (.ref a) (.list ds)
  | tup {a : Addr} {xs : List V} {ds : List PyData} : Rd H a (.tup xs) → DvAll H xs ds → Dv H (.ref a) (.tuple ds)
  | dct {a : Addr} {kvs : List (Key × V)} {ds : List (PyData × PyData)} : Rd H a (.dK kvs) → DvKv H kvs ds → Dv H (.ref a) (.dict ds)
inductive DvAll (H : Hp) : List V → List PyData → Prop
  | nil : DvAll H [] []
  | cons {v : V} {vs : List V} {d : PyData} {ds : List PyData} : Dv H v d → DvAll H vs ds → DvAll H (v :: vs) (d :: ds)
inductive DvKv (H : Hp) : List (Key × V) → List (PyData × PyData) → Prop
  | nil : DvKv H [] []
  | cons {k : Key} {v : V} {kvs : List (Key × V)} {d : PyData} {ds : List (PyData × PyData)} : Dv H v d → DvKv H kvs ds → DvKv H ((k, v) :: kvs) ((kD k, d) :: ds)
end

theorem rd_ne {H : Hp} {a : Addr} {u : HO} (h : Rd H a u) (hs : H sysModules = none) : a ≠ sysModules := by
  rintro rfl
  rcases h with h | ⟨o, h⟩ <;> (rw [hs] at h; cases h)

section
variable {X : Cx} {pins : List (Addr × Obj)} {σ : L2.St} {H : Hp} {s : Shared}
mutual
theorem Dv.reads (I : Inv X pins σ H s) (hs : H sysModules = none) : ∀ {v : V} {d : PyData}, Dv H v d → ∀ u, RelV v u →
    ∃ as, Reads s.heap u d as ∧ sysModules ∉ as
  | _, _, .non, _, r => by cases r; exact ⟨_, Reads.none, by simp⟩
  | _, _, .bl b, _, r => by cases r; exact ⟨_, Reads.bool b, by simp⟩
  | _, _, .int i, _, r => by obtain ⟨t, rfl⟩ := r; exact ⟨_, Reads.int i t, by simp⟩
  | _, _, .str x, _, r => by obtain ⟨t, rfl⟩ := r; exact ⟨_, Reads.str x t, by simp⟩
  | _, _, .lst h ha, _, r => by
    cases r
    obtain ⟨its, rv, ⟨o, n, ho, hc, _, hd⟩, _⟩ := I.list (.inl h)
    obtain ⟨as, hr, hn⟩ := DvAll.reads I hs ha _ rv
    exact ⟨_, Reads.list ho hc hd hr, by simpa using ⟨(rd_ne h hs).symm, hn⟩⟩
  | _, _, .tup h ha, _, r => by
    cases r
    obtain ⟨its, rv, ⟨o, ho, hc, n, hd⟩, _⟩ := I.tuple (.inl h)
    obtain ⟨as, hr, hn⟩ := DvAll.reads I hs ha _ rv
    exact ⟨_, Reads.tuple ho hc hd hr, hn⟩
  | _, _, .dct (a := a) h ha, _, r => by
    cases r
    obtain ⟨_, _, vs, rk, o, es, ep, ho, hx, hd, _, hp, _⟩ := h.ok I.hok
    obtain ⟨as, bs, h1, h2, n1, n2⟩ := DvKv.reads I hs ha _ rk _ hp
    exact ⟨_, Reads.dict ho hx.1 hd h1 h2, by
      simp only [List.cons_append, List.mem_cons, List.mem_append, not_or]
      exact ⟨(rd_ne h hs).symm, n1, n2⟩⟩
theorem DvAll.reads (I : Inv X pins σ H s) (hs : H sysModules = none) : ∀ {vs : List V} {ds : List PyData}, DvAll H vs ds → ∀ us, Vals vs us →
    ∃ as, ReadsAll s.heap us ds as ∧ sysModules ∉ as
  | _, _, .nil, _, r => by cases r; exact ⟨_, ReadsAll.nil, by simp⟩
  | _, _, .cons h1 h2, _, r => by
    cases r with
    | cons r1 r2 =>
      obtain ⟨as, q1, n1⟩ := Dv.reads I hs h1 _ r1
      obtain ⟨bs, q2, n2⟩ := DvAll.reads I hs h2 _ r2
      exact ⟨_, ReadsAll.cons q1 q2, by simpa using ⟨n1, n2⟩⟩
theorem DvKv.reads (I : Inv X pins σ H s) (hs : H sysModules = none) : ∀ {kvs : List (Key × V)} {ds : List (PyData × PyData)}, DvKv H kvs ds → ∀ vs, KV kvs vs → ∀ es, Pairs (mixKind X.prog X.w) es vs →
    ∃ as bs, ReadsAll s.heap (es.map (·.key)) (ds.map (·.1)) as ∧ ReadsAll s.heap (es.map (·.val)) (ds.map (·.2)) bs ∧ sysModules ∉ as ∧ sysModules ∉ bs
  | _, _, .nil, _, r, _, p => by
    cases r; cases p
    exact ⟨_, _, ReadsAll.nil, ReadsAll.nil, by simp, by simp⟩
  | _, _, .cons (k := k) h1 h2, _, r, _, p => by
    cases r with
    | cons r1 r2 =>
      cases p with
      | @cons e0 kv0 es0 kvs0 p1 p2 p3 =>
        obtain ⟨rk, rv⟩ := r1
        obtain ⟨as, q1, n1⟩ := Dv.reads I hs h1 _ rv
        obtain ⟨as', bs', q2, q3, n2, n3⟩ := DvKv.reads I hs h2 _ r2 _ p3
        have hk : ∃ cs, Reads s.heap e0.key (kD k) cs ∧ sysModules ∉ cs := by
          have p1' := p1
          rw [← rk, mixKind_is] at p1'
          rcases keyIs_shape p1' with ⟨i, t, e1, e2⟩ | ⟨x, t, e1, e2⟩
          · dsimp only at e1
            subst e1
            exact ⟨[], by rw [e2]; exact Reads.int i t, by simp⟩
          · dsimp only at e1
            subst e1
            exact ⟨[], by rw [e2]; exact Reads.str x t, by simp⟩
        obtain ⟨cs, hk1, hk2⟩ := hk
        exact ⟨_, _, ReadsAll.cons hk1 q2, ReadsAll.cons (show Reads s.heap e0.val _ as by rw [p2]; exact q1) q3, by simpa using ⟨hk2, n2⟩, by simpa using ⟨n1, n3⟩⟩
end
end

/-- repr(x) -/
def rRepr : List V → Hp → VK → Prop := fun xs H Q => ∃ v d, xs = [v] ∧ Dv H v d ∧ d.showable = true ∧ d.depth ≤ 100 ∧
  d.shown.length ≤ sizeLine ∧ Q (.str d.shown) H
theorem call_repr {X : Cx} {k : Nat} (hr : Room k X.A) (hgd : X.A.guards = some []) (hsm : ∃ o, X.K.lookup sysModules = some o) :
    CallR X (.builtin "repr") rRepr := by
  intro pins s σ H xs us Q I r h
  obtain ⟨v, d, rfl, hv, hs, hd, hl, q⟩ := h
  obtain ⟨u, rfl, ru⟩ := vals1 r
  have hun := hr.un
  have sm : H sysModules = none := by
    obtain ⟨o, ho⟩ := hsm
    exact I.bs _ _ (I.ok.mod.kin _ _ ho) |>.2
  obtain ⟨as, rd, na⟩ := Dv.reads I sm hv u ru
  cases hv with
  | non =>
    cases ru
    exact PySem.P.repr_of_none ⟨.str _, H, I.tok _, ⟨_, rfl⟩, q⟩
  | bl b =>
    cases ru
    exact PySem.P.repr_of_bool ⟨.str _, H, I.tok _, ⟨_, rfl⟩, q⟩
  | int i =>
    obtain ⟨t, rfl⟩ := ru
    exact PySem.P.repr_of_int (by simpa [PyData.showable] using hs) ⟨.str _, H, I.tok _, ⟨_, rfl⟩, q⟩
  | str x =>
    obtain ⟨t, rfl⟩ := ru
    exact PySem.P.repr_of_str ⟨.str _, H, I.tok _, ⟨_, rfl⟩, q⟩ (by simpa [PyData.shown] using hl)
  | lst _ _ | tup _ _ | dct _ _ =>
    cases ru
    refine repr_of_reads' rd hs (fun _ => na) hgd (by omega) (fun _ _ e => e) (fun h' u tk hk => ?_) hl
    exact ⟨.str _, H, I.kept (t' := tk) hk, ⟨_, rfl⟩, q⟩
end Tc
/-! The law's call, where the guards are known to be none. -/
namespace Tc
open PySem PySem.Spec PyProof.Rows L2

section
variable {P : Program} {w : World} {K : PySem.W.Frag} {mg mb : Str → Option Value} {CX : CXT}
  {k : Nat} {fa a : Addr} {fd : FuncData} {x : Str} {sp : Sp} {s₁ : Shared} {vs : List Value} {ns : List Int}

/-- what must hold behind the law's call -/
abbrev Behind (s₁ : Shared) : Result → Shared → Prop := fun r s' =>
  r = .ok (.ret (.bool true)) ∧ OldK s₁.heap s'.heap ∧ s'.os = s₁.os ∧ AllBare s'.gens

/-- the call, from a heap in which at most the script is tracked -/
theorem call_from (KX : K.In s₁.heap) (hns : s₁.heap.Ns mainGlobals mg) (hb : s₁.heap.Ns builtinsNs mb)
    (hbb : ∀ y : Str, y ≠ "__name__" → mb y = bootBuiltins y) (hlim : s₁.heap.NoLimit) (hg : s₁.gens = #[])
    (ha : s₁.heap.get? a = some { cls := .type "list", data := .seq vs.toArray }) (hr : Room k callerA)
    (F : ∀ base : Heap, K.In base → base.Ns mainGlobals mg → FnG P w K mg base CX k fa fd [x] sp)
    (hbind : ∀ (s : Shared) (u : Value), BindsTo s fd ⟨[u], []⟩ [(x, u)])
    (hCX : ∀ H e s', CX [] H s₁ (fun _ _ _ => False) e s' → False)
    (H : Hp) (hO : Only H) (hsp : sp [.ref a] H (fun v _ => v = .bl true) fun _ _ _ => False)
    (hok : HOk P w H s₁.heap) (hA : ∀ b, H b ≠ none → b = a) (hK : H a ≠ none → K.lookup a = none) :
    codeAny (model P w) callerA (.call (.ref fa) ⟨[.ref a], []⟩) (Behind s₁) s₁ := by
  have free : ∀ {b : Addr} {o : Obj}, s₁.heap.get? b = some o → (b = a → False) → H b = none := by
    intro b o _ hb
    cases q : H b with
    | none => rfl
    | some u => exact (hb (hA b (by rw [q]; exact Option.some_ne_none u))).elim
  have hidden : ∀ {b : Addr} {o : Obj}, s₁.heap.get? b = some o → H b = none →
      (hidT s₁.heap H).get? b = some o := fun e n => hidT_get e n
  have ofDict : ∀ {b : Addr} {o : Obj} {es : Array DictEntry} {ep : Nat},
      s₁.heap.get? b = some o → o.data = .dict es ep → H b = none := by
    intro b o es ep e d
    refine free e ?_
    rintro rfl
    rw [ha] at e
    cases e
    cases (show Data.seq vs.toArray _ = Data.dict es ep from d)
  have names : ∀ {b : Addr} {m : Str → Option Value}, s₁.heap.Ns b m → (hidT s₁.heap H).Ns b m := by
    rintro b m ⟨o, es, ep, e, d, r⟩
    exact ⟨o, es, ep, hidden e (ofDict e d), d, r⟩
  have written : K.In (hidT s₁.heap H) := by
    intro b o e
    refine hidden (KX b o e) ?_
    cases q : H b with
    | none => rfl
    | some u =>
      have eb : b = a := hA b (by rw [q]; exact Option.some_ne_none u)
      subst eb
      rw [hK (by rw [q]; exact Option.some_ne_none u)] at e
      cases e
  obtain ⟨mc, lim1, lim2⟩ := hlim
  have modl : Mod K mg (hidT s₁.heap H) := ⟨written, names hns, ⟨mb, names hb, hbb⟩, mc, names lim1, lim2⟩
  have e0 : Env0 P w K mg (hidT s₁.heap H) callerA [] s₁ H :=
    ⟨rfl, modl, fun b o e => of_hidT e, Nat.le_of_eq (hidT_size _ _), trivial,
      fun b h => (List.not_mem_nil (show b ∈ ([] : List Addr) from h)).elim, hok, .of_eq hg⟩
  have run := (F _ written (names hns)).run callerA [] s₁ H ⟨[.ref a], []⟩ [.ref a] [.ref a] _ _ hr rfl e0
    (hbind s₁ (.ref a)) (.cons rfl .nil) hsp
  refine codeAny_mono run ?_
  intro r s' h
  rcases r with e | fl
  · exact (hCX H e s' h).elim
  cases fl with
  | next | brk | cont => exact False.elim h
  | ret u =>
    obtain ⟨v, H', os, bare, un, hok', rv, q⟩ := h
    have hv : v = .bl true := q
    subst hv
    have hu : u = Value.bool true := rv
    subst hu
    refine ⟨rfl, OldK.of_keep (fun b o e => ?_), os, bare⟩
    cases q : H b with
    | none =>
      refine un.keep b o e q (fun z => ?_) (fun z => nomatch z)
      exact nomatch (show b ∈ ([] : List Addr) from z)
    | some u =>
      rcases hO b with z | ⟨ob, xs, z⟩
      · rw [q] at z
        cases z
      · have now := (hok b _ z).1
        have later := (hok' b _ (un.frzs b ob _ z)).1
        rw [e] at now
        cases now
        exact later

theorem law_callG (KX : K.In s₁.heap) (hns : s₁.heap.Ns mainGlobals mg) (hb : s₁.heap.Ns builtinsNs mb)
    (hbb : ∀ y : Str, y ≠ "__name__" → mb y = bootBuiltins y) (hlim : s₁.heap.NoLimit) (hg : s₁.gens = #[])
    (ha : s₁.heap.get? a = some { cls := .type "list", data := .seq vs.toArray }) (hi : IntsAre vs ns)
    (hl : ns.length ≤ sizeLine) (hr : Room k callerA)
    (F : ∀ base : Heap, K.In base → base.Ns mainGlobals mg → FnG P w K mg base CX k fa fd [x] sp)
    (hbind : ∀ (s : Shared) (u : Value), BindsTo s fd ⟨[u], []⟩ [(x, u)])
    (hsp : ∀ H : Hp, Only H → SqL K H a (ns.map V.int) → sp [.ref a] H (fun v _ => v = .bl true) fun _ _ _ => False)
    (hCX : ∀ H e s', CX [] H s₁ (fun _ _ _ => False) e s' → False) :
    codeAny (model P w) callerA (.call (.ref fa) ⟨[.ref a], []⟩) (Behind s₁) s₁ := by
  have rv := vals_ints hi
  have main := fun H hO hq => call_from (sp := sp) KX hns hb hbb hlim hg ha hr F hbind hCX H hO hq
  cases hk : K.lookup a with
  | some o =>
    have e := KX a o hk
    rw [ha] at e
    cases e
    have h0 : ∀ b : Addr, (none : Option HO) ≠ none → b = a := fun b z => absurd rfl z
    have lv : vs.toArray.size ≤ sizeLine := by
      rw [List.size_toArray, hi.length]
      exact hl
    refine main (fun _ => none) (fun _ => .inl rfl) (hsp _ (fun _ => .inl rfl) ?_)
      (fun b u z => nomatch (show (none : Option HO) = some u from z)) h0 (fun z => absurd rfl z)
    exact .inr ⟨_, vs.toArray, _, hk, rfl, rfl, rfl, lv, by simpa using rv⟩
  | none =>
    let ob : Obj := { cls := .type "list", data := .seq vs.toArray }
    let H : Hp := fun b => if b = a then some (.frz ob (.lst (ns.map V.int))) else none
    have at_a : H a = some (.frz ob (.lst (ns.map V.int))) := if_pos rfl
    have off : ∀ {b : Addr}, b ≠ a → H b = none := fun hb => if_neg hb
    have only : Only H := by
      intro b
      by_cases hb : b = a
      · rw [hb]
        exact .inr ⟨_, _, at_a⟩
      · exact .inl (off hb)
    refine main H only (hsp H only (.inl (.inr ⟨ob, at_a⟩))) (fun b u z => ?_) (fun b z => ?_) (fun _ => hk)
    · by_cases hb : b = a
      · subst hb
        rw [at_a] at z
        cases z
        exact ⟨ha, by rw [List.length_map]; exact hl, vs, _, rv, ha⟩
      · rw [off hb] at z
        cases z
    · by_cases hb : b = a
      · exact hb
      · exact absurd (off hb) z
end

/-- the end of a law's row: as the layer's own, its def a FnG -/
theorem walk_ofG {l : PySem.W.OpenLaw} {n k : Nat} {q : Program} {loose : List Str}
    {XP : (Str → Option Value) → Heap → Prop} {YP : World → Heap → Prop} {d : DefRec}
    {K : Params → PySem.W.Frag} {CX : World → CXT} {sp : World → Sp} {x : Str}
    (hn : l.most = some n) (hn2 : n ≤ sizeLine) (hdf : d.params.defaults = []) (hr : Room k callerA)
    (hY : ∀ (w : World) (h : Heap), YP w h → (K w.params).In h)
    (F : ∀ (w : World) (mg : Str → Option Value) (fa : Addr) (h : Heap), (K w.params).In h →
      h.Ns mainGlobals mg → mg d.name = some (.ref fa) →
      ∃ fd : FuncData, (∀ (s : Shared) (u : Value), BindsTo s fd ⟨[u], []⟩ [(x, u)]) ∧
        ∀ base : Heap, (K w.params).In base → base.Ns mainGlobals mg →
          FnG l.prog w (K w.params) mg base (CX w) k fa fd [x] (sp w))
    (hsp : ∀ (w : World) (H : Hp) (a : Addr) (ns : List Int), ns.length ≤ n → Only H →
      SqL (K w.params) H a (ns.map V.int) → sp w [.ref a] H (fun v _ => v = .bl true) fun _ _ _ => False)
    (hCX : ∀ (w : World) (H : Hp) (s : Shared) (e : Value) (s' : Shared),
      CX w [] H s (fun _ _ _ => False) e s' → False) :
    PySem.W.WalkO q loose XP YP l.row.toRowW d [] (fun f vs => PySem.call f vs) := by
  refine Att.attach_call hn hdf ?_
  intro w s₀ s₁ mg mb fa o pm cd doc a vs ns G Y ho hd hcd hmg hobj hints hlen hg
  obtain ⟨fd, hb, hF⟩ := F w mg fa _ (hY w _ Y) G.T.g hmg
  exact law_callG (hY w _ Y) G.T.g G.T.b G.T.builtins G.T.nolimit hg hobj hints (Nat.le_trans hlen hn2) hr hF hb
    (fun H hO hS => hsp w H a ns hlen hO hS) (fun H e s' => hCX w H s₁ e s')
end Tc
/-! An own exception class is called, with keywords too. -/
namespace Tc
open PySem PySem.Spec PySem.W
open Builtin Builtin.ObjectAttr
section
variable {M : Model} {A : Around} {E : Value → Shared → Prop} {h : Heap} {g : Array GenState} {d : Drawn} {t : Nat} {os : OsState}
variable {nm q : Str} {C N : Addr} {bs bm bmB : List Value} {hdct : Bool} {sn : List Str} {sub : List Value} {ab : Bool}
  {col : Option Bool} {dd : Option Addr} {k0 k1 k2 k3 k5 : Option Value} {B newId initId : String}

theorem check_newA (F : ExcBaseFacts B newId initId bmB) (hT : ∀ X : String, bm.contains (.type X) = bmB.contains (.type X))
    {rest : List Value} {kw : List (Str × Value)} {Q : Unit → Shared → Prop}
    (hC : h.get? C = some (excClassObj nm q C N bs bm hdct sn sub ab col dd k0 k1 k2 k3 k5 newId))
    (hq : Q () ⟨h, g, d, t, os⟩) : wpAny M A (checkBuiltinCall newId ⟨.ref C :: rest, kw⟩) Q E ⟨h, g, d, t, os⟩ := by
  have mine : (Value.ref C :: bm).contains (.type B) = true := by rw [List.contains_cons, hT, F.hasB, Bool.or_true]
  have star := F.noStar
  simp only [checkBuiltinCall, F.newKind, F.newSplit, F.newRow]
  repeat (first
    | refine wpAny_loadPart_at hC ?_
    | (refine wpAny_isSubtype_exc hC ?_; rw [mine])
    | refine wpAny_staticBase_exc hC ?_
    | refine wpAny_madeBy_exc hC ?_
    | simp only [bne_self_eq_false, Bool.false_eq_true, if_false]
    | wp_step)
  exact hq
end
section
variable {prog : Program} {w : World} {A : Around} {E : Value → Shared → Prop} {R : Result → Shared → Prop} {h : Heap}
  {g : Array GenState} {d : Drawn} {t : Nat} {os : OsState}
variable {nm q : Str} {C N : Addr} {bs bm bmB : List Value} {hdct : Bool} {sn : List Str} {sub : List Value} {ab : Bool}
  {col : Option Bool} {dd : Option Addr} {k0 k1 k2 k3 k5 : Option Value} {B newId initId : String}
theorem newA (F : ExcBaseFacts B newId initId bmB) (hT : ∀ X : String, bm.contains (.type X) = bmB.contains (.type X))
    {rest : List Value} {kw : List (Str × Value)}
    (hC : h.get? C = some (excClassObj nm q C N bs bm hdct sn sub ab col dd k0 k1 k2 k3 k5 newId))
    (hq : R (.ok (.ret (.ref (h.objs.size + 1))))
      ⟨(h.push (kdv_tup rest)).push (HandSPX.excO C h.objs.size), g, d, t, os⟩) (hrest : rest.length ≤ sizeLine) :
    codeAny (model prog w) A (.builtin newId ⟨.ref C :: rest, kw⟩) R ⟨h, g, d, t, os⟩ := by
  have hends := F.ends
  have mine : (Value.ref C :: bm).contains (.type B) = true := by rw [List.contains_cons, hT, F.hasB, Bool.or_true]
  have noA : (Value.ref C :: bm).contains (.type "AttributeError") = false := by rw [List.contains_cons, hT, F.noAttr]; rfl
  have noN : (Value.ref C :: bm).contains (.type "NameError") = false := by rw [List.contains_cons, hT, F.noName]; rfl
  refine codeAny_builtinAt F.entry ?_
  unfold Builtin.«BaseException.__new__»
  refine wpAt_bind ?_
  show wpAt _ _ _ (stack >>= _) _ _ _
  refine wpAt_bind (wpAt_stack ?_)
  intro p below
  refine wpAt_of_wpAny ?_
  wp_walk
  refine wpAt_of_wpAny ?_
  rw [F.owner]
  repeat (first
    | with_reducible refine wpAny_madeHere_exc F.canon hC ?_
    | with_reducible refine wpAny_loadPart_at hC ?_
    | (with_reducible refine wpAny_isSubtype_exc hC ?_; first | rw [mine] | rw [noA] | rw [noN])
    | wp_step)
  show R _ _
  rw [Heap.size_push]
  exact hq
/-- type.__call__ on such a class, its __init__ a def -/
theorem typeCallA (F : ExcBaseFacts B newId initId bmB) (hT : ∀ X : String, bm.contains (.type X) = bmB.contains (.type X))
    {rest : List Value} {kw : List (Str × Value)} {fI : Addr} {Q : PySem.Fin → Shared → Prop}
    (hC : h.get? C = some (excClassObj nm q C N bs bm hdct sn sub ab col dd k0 k1 k2 k3 k5 newId))
    (hi : W.Looks (model prog w) h (typeLookup (.ref C) "__init__") (some (.ref fI)))
    (hb : ∀ self, W.Looks (model prog w) h (bindSpecial (.ref fI) self) (.ref fI, [self])) (hrest : rest.length ≤ sizeLine)
    (hq : codeAny (model prog w) A (.call (.ref fI) ⟨.ref (h.objs.size + 1) :: rest, kw⟩)
      (fun r s' => match r with
        | .ok (.ret v) => v = .none ∧ Q (.done (.ret (.ref (h.objs.size + 1)))) s'
        | .ok _ => False
        | .error e => E e s')
      ⟨(h.push (W.kdv_tup rest)).push (HandSPX.excO C h.objs.size), g, d, t, os⟩) :
    wpAny (model prog w) A (Builtin.«type.__call__» ⟨.ref C :: rest, kw⟩) Q E ⟨h, g, d, t, os⟩ := by
  repeat (first
    | with_reducible refine wpAny_loadPart_at hC ?_
    | with_reducible refine wpAny_madeBy_exc hC ?_
    | wp_step)
  refine codeAny_call_builtin_code (Code.quiet_builtin _ F.quiet) (check_newA F hT hC ?_)
  refine newA F hT hC ?_ hrest
  show wpAny _ _ _ _ _ _
  have k : ∀ b o, h.get? b = some o →
      ((h.push (W.kdv_tup rest)).push (HandSPX.excO C h.objs.size)).get? b = some o := fun b o e =>
    Heap.get?_push_of_some _ (Heap.get?_push_of_some _ e)
  have inst : ((h.push (W.kdv_tup rest)).push (HandSPX.excO C h.objs.size)).get? (h.objs.size + 1) =
      some (HandSPX.excO C h.objs.size) := by heap_get
  have later := k _ _ hC
  have own : (Value.ref C :: bm).contains (.ref C) = true := by simp
  have i1 := hi.keeps k
  have b1 := (hb (.ref (h.objs.size + 1))).keeps k
  unfold isInstance
  repeat (first
    | with_reducible refine wpAny_loadPart_at inst ?_
    | (with_reducible refine wpAny_isSubtype_exc later ?_; rw [own])
    | wp_step)
  show wpAny _ _ (typeLookup (.ref C) _) _ _ _
  refine i1.at (wpAny_holding (wpAny_bind (b1.at ?_)))
  refine wpAny_bind (wpAny_call (codeAny_mono hq ?_))
  intro r s' z
  rcases r with e | (v | _ | _ | _) <;> first | exact z | exact z.elim | skip
  obtain ⟨rfl, z⟩ := z
  first
    | exact wpAny_pure (wpAny_pure z)
    | (wp_walk; exact z)

theorem callA (F : ExcBaseFacts B newId initId bmB) (hT : ∀ X : String, bm.contains (.type X) = bmB.contains (.type X))
    {rest : List Value} {kw : List (Str × Value)} {fI : Addr}
    (hC : h.get? C = some (excClassObj nm q C N bs bm hdct sn sub ab col dd k0 k1 k2 k3 k5 newId))
    (hi : W.Looks (model prog w) h (typeLookup (.ref C) "__init__") (some (.ref fI)))
    (hb : ∀ self, W.Looks (model prog w) h (bindSpecial (.ref fI) self) (.ref fI, [self])) (hrest : rest.length ≤ sizeLine)
    (hq : codeAny (model prog w) (A.under (.builtin "type.__call__" ⟨.ref C :: rest, kw⟩))
      (.call (.ref fI) ⟨.ref (h.objs.size + 1) :: rest, kw⟩) (W.InitBack (h.objs.size + 1) R)
      ⟨(h.push (W.kdv_tup rest)).push (HandSPX.excO C h.objs.size), g, d, t, os⟩) :
    codeAny (model prog w) A (.call (.ref C) ⟨rest, kw⟩) R ⟨h, g, d, t, os⟩ := by
  have f1 := PySem.tc_lookup
  have f2 := PySem.tc_bind (.ref C)
  have hTy : (⟨h, g, d, t, os⟩ : Shared).TypeIs (.ref C) "type" := ⟨_, hC, rfl⟩
  refine codeAny_of_tree ?_
  show wpAny _ _ (callAny (.ref C) _) _ _ _
  repeat (any_goals (first
    | assumption
    | with_reducible refine wpAny_loadPart_at hC ?_
    | wp_step))
  refine ⟨rfl, ?_⟩
  refine codeAny_call_builtin_at (Code.quiet_builtin _ (by decide +kernel)) entry_typeCall ?_
  refine wpAny_check_type_call_sub hC (typeCallA F hT hC hi hb hrest ?_)
  refine codeAny_mono hq ?_
  intro r s' z
  rcases r with e | (v | _ | _ | _) <;> exact z
end
end Tc
/-! An own exception class with one field is called: what stands then. -/
namespace Tc
open PySem PySem.Spec PySem.W
open Builtin Builtin.ObjectAttr

/-- what is written of an exception class with an __init__ at fI, over the base B; fld: its field -/
structure ExK (K : Frag) (C fI : Addr) (B newId initId : String) (bmB : List Value) (fld : Str) : Prop where
  base : ExcBaseFacts B newId initId bmB
  store : StoreFacts B bmB "object.__setattr__" "object"
  ini : excInitIn K C bmB newId = true
  over : excOver K C bmB = true
  own : hasDictIn K C = true
  sa : findIn K (.ref C) "__setattr__" = some (some (.builtin "object.__setattr__"))
  tak : takerIn K C fld = some none
  noF : findIn K (.ref C) fld = some none
  iC : findIn K (.ref C) "__init__" = some (some (.ref fI))
  tI : typeIn K (.ref fI) = some (.type "function")
  kp : keepIn K (.ref C) = true
/-- def __init__(self, FLD): self.FLD = FLD -/
structure InitDef (K : Frag) (fI : Addr) (qual fld : Str) (fd : FuncData) : Prop where
  ex : ∃ (oc : Value) (od : Option Addr) (kV doc pm : Value) (an : Option Addr) (cdv ct : Value) (osl : Array (Option Value))
    (pa : Arguments) (sc : Scope) (q1 q2 q3 q4 : Pos),
    fd = fnOf "__init__" qual pa [.Assign [.Attribute (.Name "self" q1) fld q2] (.Name fld q3) q4] sc .none kV doc pm an cdv ct ∧
    sc = { kind := .function, names := [("self", .local), (fld, .local)], isGenerator := false, isCoroutine := false, more := [] } ∧
    K.lookup fI = some ⟨oc, od, .func fd, osl⟩ ∧ codeIn K cdv qual = true

section
variable {prog : Program} {w : World} {A : Around} {E : Value → Shared → Prop} {R : Result → Shared → Prop}
  {hp : Heap} {g : Array GenState} {d : Drawn} {t : Nat} {os : OsState} {K : Frag} {C fI : Addr} {B newId initId : String}
  {bmB : List Value} {fld qual : Str} {fd : FuncData} {x t0 : Addr} {v : Value}
theorem osa_first {tk : Tok} (Z : ExK K C fI B newId initId bmB fld) (X : K.In hp)
    (hx : hp.get? x = some (HandSPX.excO C t0))
    (hq : ∀ h' tk' dx, (∀ b o, b ≠ x → hp.get? b = some o → h'.get? b = some o) → hp.objs.size ≤ dx → dx ≠ x →
      h'.get? x = some { HandSPX.excO C t0 with dict := some dx } →
      h'.Ns1 dx (fun y => if y = fld then some v else none) → R (.ok (.ret .none)) ⟨h', g, d, tk', os⟩) :
    codeAny (model prog w) A (.call (.builtin "object.__setattr__") ⟨[.ref x, .str fld tk, v], []⟩) R ⟨hp, g, d, t, os⟩ := by
  refine osa_openX (od := none) Z.store X ⟨hx, rfl, rfl, trivial⟩ Z.over Z.tak ?_
  intro b
  have hxs : x ≠ hp.objs.size := Nat.ne_of_lt (Heap.lt_size hx)
  obtain ⟨cd, hcd, hh⟩ := any_some Z.own
  have hcls : Looks (model prog w) hp (classData C) cd := looks_clsIn X hcd
  show wpAny _ _ (storeInOwnDict (.ref x) (.ref C) (.str fld tk) fld v b) _ _ _
  obtain ⟨nm, bs, mro, ns, qn, hd, sn, sb, ab, col, del⟩ := cd
  dsimp only at hh
  subst hh
  unfold storeInOwnDict ownDictForStores
  repeat (first
    | with_reducible refine HandSPX.store_in_new ?_ ?_
    | with_reducible refine wpAny_loadPart_at hx ?_
    | with_reducible refine hcls.at ?_
    | wp_step)
  · exact ⟨_, #[], _, (Heap.get?_update_ne _ _ _ _ hxs.symm).trans (Heap.get?_push_at rfl rfl), rfl,
      fun e he => absurd he (by simp), fun _ => rfl⟩
  · intro h' tk' hn' hs
    have hx1 : (hp.push { cls := .type "dict", data := .dict #[] }).get? x = some (HandSPX.excO C t0) :=
      Heap.get?_push_of_some _ hx
    refine hq h' tk' hp.objs.size ?_ (Nat.le_refl _) hxs.symm ?_ hn'
    · intro b o hb ho
      refine (hs.2 b (Nat.ne_of_lt (Heap.lt_size ho))).trans ?_
      exact (Heap.get?_update_ne _ _ _ _ hb).trans (Heap.get?_push_of_some _ ho)
    · exact (hs.2 x hxs).trans (Heap.get?_update_self _ hx1 rfl)
end
end Tc
namespace Tc
open PySem PySem.Spec PySem.W PyProof.Rows
open Builtin Builtin.ObjectAttr
theorem ld_local {M : Model} {s : Shared} {name : Str} {scope : Scope} {L a : Addr} {cd : Value} {m : Str → Option Value}
    {x : Str} {pos : Pos} {v : Value} {Q : Value → Shared → Prop} {A : Around} {E : Value → Shared → Prop}
    (hn : s.heap.Ns L m) (hv : m x = some v) (h : Q v s) (hk : scope.kind = .function := by rfl)
    (hl : (envOfC name scope L a cd).kindOf x = some .local := by rfl) (hd : (x == ("__debug__" : Str)) = false := by decide) :
    wpAny M A (eval (.Name x pos) (envOfC name scope L a cd)) Q E s :=
  wpAny_Name (wpAny_loadName_local hk hl hn hv h) hd
/-- the two names that such a field has -/
def FieldName (fld : Str) : Prop := fld = "given" ∨ fld = "index"
section
variable {prog : Program} {w : World} {A : Around} {E : Value → Shared → Prop} {R : Result → Shared → Prop}
  {s : Shared} {K : Frag} {C fI : Addr} {B newId initId : String}
  {bmB : List Value} {fld qual : Str} {fd : FuncData} {x t0 : Addr} {v : Value}
/-- behind __init__ -/
structure InitDone (h h' : Heap) (x C dx t1 : Addr) (fld : Str) (v : Value) : Prop where
  keep : ∀ b o, b ≠ x → h.get? b = some o → h'.get? b = some o
  obj : h'.get? x = some { HandSPX.excO C t1 with dict := some dx }
  big : h.objs.size ≤ dx
  dne : dx ≠ x
  ns : h'.Ns1 dx (fun y => if y = fld then some v else none)
theorem init_run (Z : ExK K C fI B newId initId bmB fld) (fn : FieldName fld) (D : InitDef K fI qual fld fd) (X : K.In s.heap)
    (hlim : s.heap.NoLimit) (hx : s.heap.get? x = some (HandSPX.excO C t0)) (hroom : A.depth < recursionLimit)
    {args : Args} (hb : BindsTo s fd args [("self", .ref x), (fld, v)])
    (hq : ∀ h' tk dx, InitDone s.heap h' x C dx t0 fld v → R (.ok (.ret .none)) { s with heap := h', toks := tk }) :
    codeAny (model prog w) A (.call (.ref fI) args) R s := by
  obtain ⟨oc, od, kV, doc, pm, an, cdv, ct, osl, pa, sc, q1, q2, q3, q4, rfl, rfl, ho, hcd⟩ := D.ex
  have two : (fld == ("self" : Str)) = false := by rcases fn with rfl | rfl <;> decide
  refine Att.call_fn (binds := [("self", .ref x), (fld, v)]) X hlim ho hcd hroom hb
    (by rcases fn with rfl | rfl <;> first | rfl | decide | with_unfolding_all rfl) (fun s1 IC => ?_) rfl rfl rfl
  obtain ⟨h1, tk1, rfl⟩ := IC.toInCall.same
  have k : ∀ b o, s.heap.get? b = some o → h1.get? b = some o := IC.toInCall.keep
  have hn := IC.toInCall.ns
  have X1 : K.In h1 := X.keeps k
  have hx1 := k _ _ hx
  show wpAny _ _ (execs _ _) _ _ _
  refine wpAny_execs_cons (plainObj_wpAny_Assign_Attribute ?_)
  refine ld_local (v := v) hn ?_ (ld_local (v := .ref x) hn ?_ ?_ rfl ?_) rfl ?_ ?_
  · rcases fn with rfl | rfl <;> first | rfl | with_unfolding_all rfl | kernel_rfl
  · rcases fn with rfl | rfl <;> first | rfl | with_unfolding_all rfl | kernel_rfl
  · refine set_plain X1 (ox := HandSPX.excO C t0) (od := none) ⟨hx1, rfl, rfl, trivial⟩ Z.sa ?_
    refine osa_first Z X1 hx1 (fun h3 tk3 dx k3 dn dne hx3 hn3 => ?_)
    show wpAny _ _ (execs _ _) _ _ _
    have z : s.heap.objs.size < h1.objs.size := hn.lt
    exact wpAny_execs_nil (hq h3 tk3 dx ⟨fun b o hb e => k3 b o hb (k b o e), hx3,
      Nat.le_of_lt (Nat.lt_of_lt_of_le z dn), dne, hn3⟩)
  · rcases fn with rfl | rfl <;> rfl
  · rcases fn with rfl | rfl <;> rfl
  · rcases fn with rfl | rfl <;> decide

/-- a new exception, its field -/
structure MadeX (h h' : Heap) (e C d : Addr) (fld : Str) (v : Value) : Prop where
  keep : ∀ b o, h.get? b = some o → h'.get? b = some o
  new : h.objs.size ≤ e
  obj : ∃ t1 : Addr, h'.get? e = some { HandSPX.excO C t1 with dict := some d }
  big : h.objs.size ≤ d
  dne : d ≠ e
  ns : h'.Ns1 d (fun y => if y = fld then some v else none)
theorem made_run (Z : ExK K C fI B newId initId bmB fld) (fn : FieldName fld) (D : InitDef K fI qual fld fd) (X : K.In s.heap)
    (hlim : s.heap.NoLimit) (hroom : A.depth + 1 < recursionLimit) {rest : List Value} {kw : List (Str × Value)} (hz : rest.length ≤ sizeLine)
    (hb : ∀ (s : Shared) (y : Addr), BindsTo s fd ⟨.ref y :: rest, kw⟩ [("self", .ref y), (fld, v)])
    (hq : ∀ h' tk e d, MadeX s.heap h' e C d fld v → R (.ok (.ret (.ref e))) { s with heap := h', toks := tk }) :
    codeAny (model prog w) A (.call (.ref C) ⟨rest, kw⟩) R s := by
  obtain ⟨nm, N', qn, bs, bm, hdct, sn, sub, ab, col, dd, k0, k1, k2, k3, k5, hC, hT⟩ := excInit_of X Z.ini
  obtain ⟨hp, g, dr, tk, os⟩ := s
  have k : ∀ b o, hp.get? b = some o → ((hp.push (kdv_tup rest)).push (HandSPX.excO C hp.objs.size)).get? b = some o :=
    fun b o e => Heap.get?_push_of_some _ (Heap.get?_push_of_some _ e)
  have hget : ((hp.push (kdv_tup rest)).push (HandSPX.excO C hp.objs.size)).get? (hp.objs.size + 1) =
      some (HandSPX.excO C hp.objs.size) := by heap_get
  refine callA Z.base hT hC (looks_findIn X Z.iC) (fun self => bind_fn X self Z.tI) hz ?_
  refine init_run (s := ⟨(hp.push (kdv_tup rest)).push (HandSPX.excO C hp.objs.size), g, dr, tk, os⟩) Z fn D
    (X.keeps k) (hlim.keeps k) hget ?_ (hb _ _) ?_
  · have e : (A.under (.builtin "type.__call__" ⟨.ref C :: rest, kw⟩)).depth = A.depth + 1 := L2.make_depth
    omega
  · rintro h' tk' dx ⟨k', hx, dn, dne, hns⟩
    have z : hp.objs.size + 1 + 1 ≤ dx := by
      have q := dn
      rw [Heap.size_push, Heap.size_push] at q
      exact q
    refine ⟨rfl, hq h' tk' (hp.objs.size + 1) dx ⟨fun b o e => ?_, Nat.le_succ _, ⟨_, hx⟩,
      Nat.le_trans (Nat.le_trans (Nat.le_succ _) (Nat.le_succ _)) z, dne, hns⟩⟩
    exact k' b o (Nat.ne_of_lt (Nat.lt_succ_of_lt (Heap.lt_size e))) (k b o e)
end
end Tc
/-! Exceptions as values, tracked: made, asked for their class, their field read. -/
namespace Tc
open PySem PySem.Spec PyProof.Rows L2

/-- at a an exception of the class at C with its dict at d, which holds the field alone -/
structure ExAt (H : Hp) (a C d : Addr) (fld : Str) (v : V) : Prop where
  ob : H a = some (exo a C (some d))
  di : H d = some (exd d [(fld, v)])

section
variable {X : Cx} {pins : List (Addr × Obj)} {σ : L2.St} {H : Hp} {C fI e d : Addr} {B newId initId : String}
  {bmB : List Value} {fld qual : Str} {fd : FuncData} {v : V} {u : Value}

theorem relO_one (rv : RelV v u) (f : Str) : RelO (List.lookup f [(fld, v)]) (if f = fld then some u else none) :=
  relO_put (fs := []) (mA := fun _ => none) rv (fun _ => True.intro) f

theorem made_inv {hp h' : Heap} {g : Array GenState} {dr : Drawn} {tk tk' : Nat} {os : OsState}
    (I : Inv X pins σ H ⟨hp, g, dr, tk, os⟩) (M : MadeX hp h' e C d fld u) (rv : RelV v u) :
    H e = none ∧ H d = none ∧ d ≠ e ∧
      Inv X pins σ (upd (upd H d (exd d [(fld, v)])) e (exo e C (some d))) ⟨h', g, dr, tk', os⟩ := by
  have he : H e = none := I.hok.fresh M.new
  have hd : H d = none := I.hok.fresh M.big
  refine ⟨he, hd, M.dne, ?_⟩
  obtain ⟨t1, hobj⟩ := M.obj
  obtain ⟨G, g1, g2⟩ := restrict h' fun b => decide (b ≠ e)
  have gk : ∀ b, b ≠ e → G.get? b = h'.get? b := fun b hb => g1 b (decide_eq_true hb)
  have ge : G.get? e = none := g2 e (by simp)
  have old : ∀ b o, hp.get? b = some o → G.get? b = some o := by
    intro b o q
    have hb : b ≠ e := Nat.ne_of_lt (Nat.lt_of_lt_of_le (Heap.lt_size q) M.new)
    rw [gk b hb]
    exact M.keep b o q
  have one : ObjOk X.prog X.w (upd H d (exd d [(fld, v)])) G d (exd d [(fld, v)]) :=
    exd_ok (M.ns.at fun o q => (gk d M.dne).trans q) (relO_one rv)
  have J := I.laid (t' := tk') old M.big one
  have up : ∀ b o, G.get? b = some o → h'.get? b = some o := by
    intro b o q
    by_cases hb : b = e
    · rw [hb, ge] at q
      cases q
    · exact (gk b hb).symm.trans q
  have he2 : upd H d (exd d [(fld, v)]) e = none := by
    rw [upd_ne M.dne.symm]
    exact he
  have un : Un X.fs [] (upd H d (exd d [(fld, v)])) (upd (upd H d (exd d [(fld, v)])) e (exo e C (some d))) G h' := {
    keep := fun b o q _ _ _ => up b o q
    slot := fun b o q _ _ _ => ⟨o.slots, up b o q⟩
    free := fun b o q n _ => by
      rw [upd_ne (fun z => by rw [z, ge] at q; cases q)]
      exact n
    there := fun b o q _ => ⟨o, up b o q⟩
    tups := fun b xs q => by
      rw [upd_ne (ne_of_none q he2)]
      exact q
    frzs := fun b o w q => by
      rw [upd_ne (ne_of_none q he2)]
      exact q
    tbls := fun b ps q => ⟨#[], by rw [upd_ne (ne_of_none q he2), q]; simp⟩ }
  refine J.un (t' := tk') un ?_
  intro b o q
  by_cases hb : b = e
  · subst hb
    rw [upd_same] at q
    cases q
    exact exo_ok hobj
  · rw [upd_ne hb] at q
    refine (J.hok b o q).stay (fun c w _ z => up c w z) (fun c z => ?_) (fun c xs z => ?_)
    · rw [upd_ne (ne_of_none z he2)]
      exact z
    · rw [upd_ne (ne_of_none z he2)]
      exact z

/-- X(e) | X(FLD=e): a new exception, its dict -/
def tNewX (C : Addr) (fld : Str) (te : TE) : TE := fun σ H Q => te σ H fun v H1 => ∀ a d, H1 a = none → H1 d = none → d ≠ a →
  Q (.ref a) (upd (upd H1 d (exd d [(fld, v)])) a (exo a C (some d)))
theorem run_newX {s : Shared} {Q : VK} {rest : List Value} {kw : List (Str × Value)} {k : Nat}
    (Z : ExK X.K C fI B newId initId bmB fld) (fn : FieldName fld) (D : InitDef X.K fI qual fld fd)
    (hr : Room k X.A) (hz : rest.length ≤ sizeLine)
    (hb : ∀ (s : Shared) (y : Addr), BindsTo s fd ⟨.ref y :: rest, kw⟩ [("self", .ref y), (fld, u)])
    (I : Inv X pins σ H s) (rv : RelV v u)
    (h : ∀ a d, H a = none → H d = none → d ≠ a → Q (.ref a) (upd (upd H d (exd d [(fld, v)])) a (exo a C (some d)))) :
    wpAny (model X.prog X.w) X.A (call (.ref C) rest kw) (EP X pins σ Q) X.xe s := by
  obtain ⟨hp, g, dr, tk, os⟩ := s
  refine wpAny_call (made_run Z fn D I.kIn I.nolimit (by have := hr.dp; omega) hz hb ?_)
  intro h' tk' e d M
  obtain ⟨he, hd, ne, J⟩ := made_inv (tk' := tk') I M rv
  exact ⟨.ref e, _, J, rfl, h e d he hd ne⟩
variable {x : Str} {p pos : Pos} {ee : Expr} {te : TE} {k : Nat}
theorem pe_newX (Z : ExK X.K C fI B newId initId bmB fld) (fn : FieldName fld) (D : InitDef X.K fI qual fld fd)
    (hr : Room k X.A) (hb : ∀ (u : Value) (s : Shared) (y : Addr), BindsTo s fd ⟨[.ref y, u], []⟩ [("self", .ref y), (fld, u)])
    (hg : Gl X x) (hm : X.mg x = some (.ref C)) (he : PE X ee te)
    (hs : starEach [ee] X.env = (false, eval ee X.env) :: starEach [] X.env := by rfl)
    (hdb : (x == ("__debug__" : Str)) = false := by decide) :
    PE X (.Call (.Name x p) [ee] [] pos) (tNewX C fld te) := by
  constructor
  intro pins s σ H Q I h
  refine wpAny_Call_Name_kw (ld_glob I hg hm ?_ hdb)
  refine PySem.W.callWith_K (h₀ := X.base) I.ok.mod.kin Z.kp ?_ hs (by rfl)
  rw [hs]
  show wpAny _ _ (spliced ((false, eval ee X.env) :: backTo pos (starEach [] X.env))) _ _ s
  refine Calls.spliced_cons (thn (he.run pins s σ H _ I h) ?_)
  rintro u s1 ⟨v, H1, I1, r1, q1⟩
  refine Calls.spliced_nil ⟨I1.kIn, ?_⟩
  exact run_newX (kw := []) Z fn D hr (by rw [sizeLine_eq]; show 1 ≤ 16777216; decide) (fun s y => hb u s y) I1 r1 q1
theorem pe_newXk {kpos : Pos} (Z : ExK X.K C fI B newId initId bmB fld) (fn : FieldName fld) (D : InitDef X.K fI qual fld fd)
    (hr : Room k X.A) (hb : ∀ (u : Value) (s : Shared) (y : Addr), BindsTo s fd ⟨[.ref y], [(fld, u)]⟩ [("self", .ref y), (fld, u)])
    (hg : Gl X x) (hm : X.mg x = some (.ref C)) (he : PE X ee te)
    (hall : (backToKw pos (keywordEach [⟨some fld, ee, kpos⟩] X.env)).all (·.1.isSome) = true := by rfl)
    (hks : (backToKw pos (keywordEach [⟨some fld, ee, kpos⟩] X.env)).filterMap (·.1) = [fld] := by rfl)
    (hpl : ((backTo pos (starEach [] X.env)).any (·.1) || (backToKw pos (keywordEach [⟨some fld, ee, kpos⟩] X.env)).any (·.1.isNone)) = false := by rfl)
    (hdb : (x == ("__debug__" : Str)) = false := by decide) :
    PE X (.Call (.Name x p) [] [⟨some fld, ee, kpos⟩] pos) (tNewX C fld te) := by
  constructor
  intro pins s σ H Q I h
  refine wpAny_Call_Name_kw (ld_glob I hg hm ?_ hdb)
  have kws : PK X [⟨some fld, ee, kpos⟩] (tCons te tNil) := pk_cons he pk_nil
  refine PySem.W.callWith_KW0 (h₀ := X.base) I.ok.mod.kin Z.kp hall
    (thn (kws.run pos pins s σ H (fun zs H1 => match zs with
      | [v] => ∀ a d, H1 a = none → H1 d = none → d ≠ a → Q (.ref a) (upd (upd H1 d (exd d [(fld, v)])) a (exo a C (some d)))
      | _ => False) I ?_) ?_) hpl
  · show te σ H _
    exact h
  · rintro ws s1 ⟨zs, H1, I1, rz, q1⟩
    match zs, q1 with
    | [v], q1 =>
    obtain ⟨u, rfl, ru⟩ := vals1 rz
    refine ⟨I1.kIn, ?_⟩
    rw [hks]
    exact run_newX (rest := []) Z fn D hr (by rw [sizeLine_eq]; decide) (fun s y => hb u s y) I1 ru q1
/-- what isinstance and a field's read ask of an exception's class -/
structure ExA (K : PySem.W.Frag) (C : Addr) : Prop where
  ga : PySem.W.findIn K (.ref C) "__getattribute__" = some (some (.builtin "BaseException.__getattribute__"))
  gg : PySem.W.findIn K (.ref C) "__getattr__" = some none
  ex : PySem.W.subIn K (.ref C) (.type "BaseException") = some true
  own : PySem.W.hasDictIn K C = true
  kc : PySem.W.findIn K (.ref C) "__class__" = some (some (.builtin "object.__class__"))
  sn : PySem.W.specialIn K (.builtin "object.__class__") "__get__" = some (some (.builtin "getset_descriptor.__get__"))
  tk : PySem.W.takesIn K (.builtin "object.__class__") = some true
  mo : PySem.W.mroIn K C (.type "object") = some true
theorem inst_ex {s : Shared} {C a : Addr} {od : Option Addr} (I : Inv X pins σ H s) (h : H a = some (exo a C od))
    (hd : ∀ d, od = some d → ∃ fs, H d = some (exd d fs)) : ∃ oe oo, PySem.W.InstAt s.heap a oe C oo ∧
      (∀ d, od = some d → ∃ o, oo = some o ∧ s.heap.get? d = some o) := by
  obtain ⟨t1, ho⟩ := exo_at I.hok h
  cases od with
  | none => exact ⟨_, none, ⟨ho, rfl, rfl, trivial⟩, fun d e => nomatch e⟩
  | some d =>
    obtain ⟨fs, hf⟩ := hd d rfl
    obtain ⟨mA, hns, _⟩ := exd_at I.hok hf
    obtain ⟨o, ho2, _⟩ := lookIn_ns hns
    exact ⟨_, some o, ⟨ho, rfl, rfl, ho2⟩, fun d' e => by cases e; exact ⟨o, rfl, ho2⟩⟩
/-- isinstance(e, c), e a tracked exception -/
def rIsX (K : PySem.W.Frag) : List V → Hp → VK → Prop := fun xs H Q => ∃ (a C : Addr) (od : Option Addr) (c : V) (cv : Value) (b : Bool),
  xs = [.ref a, c] ∧ H a = some (exo a C od) ∧ (∀ d, od = some d → ∃ fs, H d = some (exd d fs)) ∧ ExA K C ∧ ClsV c cv ∧
  PySem.W.kitOne K (.ref C) cv = some b ∧ Q (.bl b) H
theorem call_isX : CallR X (.builtin "isinstance") (rIsX X.K) := by
  intro pins s σ H xs us Q I r h
  obtain ⟨a, C, od, c, cv, b, rfl, ha, hd, T, hc, e, q⟩ := h
  cases r with
  | cons rx rr =>
    cases rr with
    | cons rt rr =>
      cases rr
      cases rx
      have ec := hc.eq rt
      subst ec
      obtain ⟨oe, oo, J, _⟩ := inst_ex I ha hd
      have cl : (PySem.W.clsIn X.K C).isSome = true := by
        obtain ⟨cd, hcd, _⟩ := PySem.W.any_some T.own
        rw [hcd]
        rfl
      refine PySem.W.kia_one (PySem.W.kitx_exc cl T.ga T.gg T.ex T.kc T.sn T.tk T.mo) I.kIn J e (fun z => nomatch z) ?_
      intro tk
      exact ⟨.bl b, H, I.kept (t' := tk) fun _ _ z => z, rfl, q⟩
/-- e.FLD, e a tracked exception -/
def tXfld (K : PySem.W.Frag) (fld : Str) (te : TE) : TE := fun σ H Q => te σ H fun x H1 => ∃ (a C d : Addr) (fs : List (Str × V)) (v : V),
  x = .ref a ∧ H1 a = some (exo a C (some d)) ∧ H1 d = some (exd d fs) ∧ ExA K C ∧ PySem.W.findIn K (.ref C) fld = some none ∧
  fs.lookup fld = some v ∧ Q v H1
theorem pe_xfld {n : Str} (he : PE X ee te) (hb : attributeBase ee n X.env (eval ee X.env) = eval ee X.env := by rfl) :
    PE X (.Attribute ee n pos) (tXfld X.K n te) := by
  constructor
  intro pins s σ H Q I h
  refine attr_of hb (thn (he.run pins s σ H _ I h) ?_)
  rintro u s1 ⟨x, H1, I1, rx, a, C, d, fs, v, rfl, ha, hd, T, hno, hl, q⟩
  obtain rfl : u = Value.ref a := rx
  obtain ⟨oe, oo, J, hoo⟩ := inst_ex I1 ha (fun d' e => by cases e; exact ⟨fs, hd⟩)
  obtain ⟨o, rfl, ho⟩ := hoo d rfl
  obtain ⟨mA, hns, hr⟩ := exd_at I1.hok hd
  obtain ⟨o2, ho2, hlk⟩ := lookIn_ns hns
  rw [ho] at ho2
  cases ho2
  obtain ⟨w, hw, rw'⟩ := RelO.some_of (v := v) (o := mA n) (by rw [← hl]; exact hr n)
  refine HandSPX.exc_get I1.kIn J T.ga T.gg T.ex (PySem.W.findObj_own T.own hno rfl (by rw [hlk, hw])) (handed_of rw') ?_
  exact ⟨v, H1, I1.tok _, rw', q⟩
end
end Tc
namespace Tc
open PySem PySem.Spec PyProof.Rows L2
section
variable {X : Cx} {C : Addr} {B newId initId : String} {bmB : List Value} {x : Str} {p pos : Pos}
/-- X(), an own exception class without an own __init__ -/
def tNewX0 (C : Addr) : TE := fun _ H Q => ∀ a, H a = none → Q (.ref a) (upd H a (exo a C none))
theorem pe_newX0 (F : ExcBaseFacts B newId initId bmB) (q : PySem.W.excIn X.K C bmB newId = true)
    (gC : X.mg x = some (.ref C)) (kC : PySem.W.keepIn X.K (.ref C) = true) (hg : Gl X x)
    (hdb : (x == ("__debug__" : Str)) = false := by decide) :
    PE X (.Call (.Name x p) [] [] pos) (tNewX0 C) := by
  constructor
  intro pins s σ H Q I h
  refine wpAny_Call_Name_kw (ld_glob I hg gC ?_ hdb)
  refine PySem.W.callWith_K0 I.kIn kC ?_
  obtain ⟨bm, N, nm, qn, bs, hdct, sn, sub, ab, col, dd, k0, k1, k2, k3, k5, mN, hC, hN, hni, T⟩ := exc_obj I.kIn q
  refine wpAny_call_exc_subT F T hC hN hni ?_ (by show 0 ≤ sizeLine; omega)
  intro h' a hm
  have hn : H a = none := I.hok.gone hm.new
  obtain ⟨t, ht, _, _⟩ := hm.there
  exact ⟨.ref a, _, I.laidN hm.keeps hm.new hn (exo_ok ht), rfl, h a hn⟩
end
end Tc
/-! The head's facts by one Bool and the functions by their texts; what makes a new exception. -/
namespace Tc
open PySem PySem.Spec PyProof.Rows L2

/-- what objects name: the values of dicts, the names of classes, the code of functions -/
def valsOf (o : Obj) : List Addr := match o.data with
  | .dict es _ => es.toList.flatMap fun e => He.refV e.val
  | _ => []
def nsOf (o : Obj) : List Addr := match o.data with
  | .cls cd => [cd.ns]
  | _ => []
def codeOf (o : Obj) : List Addr := match o.data with
  | .func fd => He.refV fd.code
  | _ => []
def reach (g : Addr → Option Obj) (f : Obj → List Addr) (as : List Addr) : List Addr := as.flatMap fun a => match g a with
  | some o => f o
  | none => []
/-- the module's names, what they stand for, the classes' names, their methods, the codes of all -/
def adsM (g : Addr → Option Obj) : List Addr :=
  let l1 := reach g valsOf [mainGlobals]
  let l2 := reach g nsOf l1
  let l3 := reach g valsOf l2
  mainGlobals :: sysModules :: (l1 ++ (l2 ++ (l3 ++ reach g codeOf (l1 ++ l3))))
/-- that part of the heap -/
def frM (g : Addr → Option Obj) : PySem.W.Frag := He.frG g (adsM g)
def obsM (F : PySem.W.Frag → Bool) (fn : List He.FnD) (K : PySem.W.Frag) : He.Al :=
  (F K && fn.all fun d => PySem.W.keepIn K (.ref (He.fAd K d.at_)) && (He.Fa.code d.at_ d.qual).ok K, fn.map fun d => He.fnObs K d.at_)
def SaysM (F : PySem.W.Frag → Bool) (fn : List He.FnD) (K : PySem.W.Frag) : Prop := obsM F fn K = He.valE fn
def obsMG (F : PySem.W.Frag → Bool) (fn : List He.FnD) (g : Addr → Option Obj) : He.Al := obsM F fn (frM g)
def hookM (F : PySem.W.Frag → Bool) (fn : List He.FnD) : PySem.W.Hook where
  α := He.Al
  obs := fun s => obsMG F fn s.heap.get?
  val := fun _ => He.valE fn
  says := fun _ h => ∃ K : PySem.W.Frag, K.In h ∧ SaysM F fn K
  of := fun _ _ e => ⟨_, He.frG_in, e⟩
  keeps := fun _ _ _ ⟨K, hK, c⟩ k => ⟨K, PySem.W.Frag.In.keeps hK k, c⟩
theorem obsMG_eq {F : PySem.W.Frag → Bool} {fn : List He.FnD} {g : Addr → Option Obj} {s : Shared}
    (h : ∀ a, g a = s.heap.get? a) : obsMG F fn g = (hookM F fn).obs s := by
  have e : g = s.heap.get? := funext h
  rw [e] <;> rfl
section
variable {F : PySem.W.Frag → Bool} {fn : List He.FnD} {K : PySem.W.Frag}
theorem SaysM.fact (c : SaysM F fn K) : F K = true :=
  (He.ba (congrArg (fun z : He.Al => z.1) c)).1
/-- the def d of the text stands, and is called so -/
theorem SaysM.fun_ (c : SaysM F fn K) (i : Nat) {st : Stmt} {p : Str × Option Str} {x q : Str}
    (h : fn[i]? = some ⟨p, x, q, defArgs st, defBody st, defScope st⟩ := by rfl) :
    ∃ fd, Fun K x q st (He.fAd K p) fd := by
  have c1 := (He.ba (show (F K && fn.all fun d => PySem.W.keepIn K (.ref (He.fAd K d.at_)) && (He.Fa.code d.at_ d.qual).ok K) = true from
    congrArg (fun z : He.Al => z.1) c)).2
  have c2 := List.all_eq_true.mp c1 _ (List.mem_of_getElem? h)
  obtain ⟨kp, cd⟩ := He.ba c2
  have e : fn.map (fun d => He.fnObs K d.at_) = fn.map He.FnD.val := congrArg (fun z : He.Al => z.2) c
  have e2 : (fn.map fun d => He.fnObs K d.at_)[i]? = (fn.map He.FnD.val)[i]? := by rw [e]
  rw [List.getElem?_map, List.getElem?_map, h] at e2
  obtain ⟨oc, od, osl, kV, doc, pm, an, cdv, ct, lk, hc⟩ := He.fn_ok (Option.some.inj e2) cd
  exact ⟨_, fun_mk lk hc kp⟩
end

/-- a statement, then the rest, a word between them -/
def tMid (t u : TS) : TS := fun D σ H => ∃ M : L2.St → Hp → Prop, t { D with nx := M } σ H ∧ ∀ σ' H', M σ' H' → u D σ' H'
theorem pss_mid {X : Cx} {st : Stmt} {rest : List Stmt} {t u : TS} (h1 : PS X st t) (h2 : PSs X rest u) : PSs X (st :: rest) (tMid t u) := by
  constructor
  intro pins s σ H D I h
  obtain ⟨M, hm, hu⟩ := h
  refine wpAny_execs_cons (thn (h1.run pins s σ H { D with nx := M } I hm) ?_)
  intro f s1 q
  cases f with
  | next =>
    obtain ⟨σ', H', I', q⟩ := q
    exact h2.run pins s1 σ' H' D I' (hu σ' H' q)
  | ret v | brk | cont => exact q

/-- a def by its name: what it keeps, how it is called -/
structure Call (P : Program) (w : World) (K : PySem.W.Frag) (mg : Str → Option Value) (base : Heap) (CX : CXT)
    (k : Nat) (x : Str) (ps : List Str) (sp : Sp) : Prop where
  ex : ∃ f fd, FnG P w K mg base CX k f fd ps sp ∧ mg x = some (.ref f) ∧ PySem.W.keepIn K (.ref f) = true ∧ Binds K fd ps []
section
variable {X : Cx} {CX : CXT} {k : Nat} {ps : List Str} {sp : Sp} {E : XK} {x : Str} {p pos : Pos} {e : Expr} {es : List Expr} {t : TA}
theorem pe_do (F : Call X.prog X.w X.K X.mg X.base CX k x ps sp) (hr : Room k X.A)
    (hgd : X.A.guards = some []) (hg : Gl X x) (hx : Passes CX X E) (ha : PA X (e :: es) t)
    (hdb : (x == ("__debug__" : Str)) = false := by decide)
    (he : starEach (e :: es) X.env = (false, eval e X.env) :: starEach es X.env := by rfl)
    (hpl : (backTo pos (starEach es X.env)).any (·.1) = false := by rfl) :
    PE X (.Call (.Name x p) (e :: es) [] pos) (tCall sp [] E t) := by
  obtain ⟨f, fd, G, hm, hk, hb⟩ := F.ex
  exact pe_callG G hr hgd hg hm hk hb .nil hx ha hdb he hpl
end

/-- what a class like «class X(BASE): def __init__(self, FLD): self.FLD = FLD» needs to be made -/
structure NewAble (K : PySem.W.Frag) (mg : Str → Option Value) (x fld : Str) (C : Addr) : Prop where
  ex : ∃ (fI : Addr) (B newId initId : String) (bmB : List Value) (qual : Str) (fd : FuncData),
    ExK K C fI B newId initId bmB fld ∧ FieldName fld ∧ InitDef K fI qual fld fd ∧
    (∀ (u : Value) (s : Shared) (y : Addr), BindsTo s fd ⟨[.ref y, u], []⟩ [("self", .ref y), (fld, u)]) ∧
    ∀ (u : Value) (s : Shared) (y : Addr), BindsTo s fd ⟨[.ref y], [(fld, u)]⟩ [("self", .ref y), (fld, u)]
  gm : mg x = some (.ref C)
section
variable {X : Cx} {C : Addr} {x fld : Str} {p pos : Pos} {ee : Expr} {te : TE} {k : Nat}
theorem pe_new (N : NewAble X.K X.mg x fld C) (hr : Room k X.A) (hg : Gl X x) (he : PE X ee te)
    (hs : starEach [ee] X.env = (false, eval ee X.env) :: starEach [] X.env := by rfl)
    (hdb : (x == ("__debug__" : Str)) = false := by decide) :
    PE X (.Call (.Name x p) [ee] [] pos) (tNewX C fld te) := by
  obtain ⟨fI, B, newId, initId, bmB, qual, fd, Z, fn, D, b1, b2⟩ := N.ex
  exact pe_newX Z fn D hr b1 hg N.gm he hs hdb
theorem pe_newk {kpos : Pos} (N : NewAble X.K X.mg x fld C) (hr : Room k X.A) (hg : Gl X x) (he : PE X ee te)
    (hall : (backToKw pos (keywordEach [⟨some fld, ee, kpos⟩] X.env)).all (·.1.isSome) = true := by rfl)
    (hks : (backToKw pos (keywordEach [⟨some fld, ee, kpos⟩] X.env)).filterMap (·.1) = [fld] := by rfl)
    (hpl : ((backTo pos (starEach [] X.env)).any (·.1) || (backToKw pos (keywordEach [⟨some fld, ee, kpos⟩] X.env)).any (·.1.isNone)) = false := by rfl)
    (hdb : (x == ("__debug__" : Str)) = false := by decide) :
    PE X (.Call (.Name x p) [] [⟨some fld, ee, kpos⟩] pos) (tNewX C fld te) := by
  obtain ⟨fI, B, newId, initId, bmB, qual, fd, Z, fn, D, b1, b2⟩ := N.ex
  exact pe_newXk Z fn D hr b2 hg N.gm he hall hks hpl hdb
end

/-! ### the facts of an exception class, told by a Bool -/
/-- the three bases: the built-in class under which a class stands -/
inductive Kin where
  | v | l | a
def Kin.B : Kin → String
  | .v => "ValueError"
  | .l => "LookupError"
  | .a => "ArithmeticError"
def Kin.new : Kin → String
  | .v => "ValueError.__new__"
  | .l => "LookupError.__new__"
  | .a => "ArithmeticError.__new__"
def Kin.ini : Kin → String
  | .v => "ValueError.__init__"
  | .l => "LookupError.__init__"
  | .a => "ArithmeticError.__init__"
def Kin.mro (k : Kin) : List Value := [.type k.B, .type "Exception", .type "BaseException", .type "object"]
theorem Kin.base : ∀ k : Kin, ExcBaseFacts k.B k.new k.ini k.mro
  | .v => PySem.F.excBase_ValueError
  | .l => PySem.F.excBase_LookupError
  | .a => PySem.F.excBase_ArithmeticError
theorem Kin.store : ∀ k : Kin, StoreFacts k.B k.mro "object.__setattr__" "object"
  | .v => PySem.F.store_ValueError
  | .l => PySem.F.store_LookupError
  | .a => PySem.F.store_ArithmeticError
def exkB (K : PySem.W.Frag) (k : Kin) (x fld : Str) : Bool :=
  let C := He.ga K x
  PySem.W.excInitIn K C k.mro k.new && (PySem.W.excOver K C k.mro && (PySem.W.hasDictIn K C &&
  (He.eqO (PySem.W.findIn K (.ref C) "__setattr__") (some (some (.builtin "object.__setattr__"))) &&
  (He.eqO (PySem.W.takerIn K C fld) (some none) && (He.eqO (PySem.W.findIn K (.ref C) fld) (some none) &&
  (He.eqO (PySem.W.findIn K (.ref C) "__init__") (some (some (.ref (He.ma K C "__init__")))) &&
  (decide (PySem.W.typeIn K (.ref (He.ma K C "__init__")) = some (.type "function")) && PySem.W.keepIn K (.ref C))))))))
theorem exkB_ok {K : PySem.W.Frag} {k : Kin} {x fld : Str} (h : exkB K k x fld = true) :
    ExK K (He.ga K x) (He.ma K (He.ga K x) "__init__") k.B k.new k.ini k.mro fld := by
  obtain ⟨h1, h⟩ := He.ba h
  obtain ⟨h2, h⟩ := He.ba h
  obtain ⟨h3, h⟩ := He.ba h
  obtain ⟨h4, h⟩ := He.ba h
  obtain ⟨h5, h⟩ := He.ba h
  obtain ⟨h6, h⟩ := He.ba h
  obtain ⟨h7, h⟩ := He.ba h
  obtain ⟨h8, h9⟩ := He.ba h
  exact ⟨k.base, k.store, h1, h2, h3, He.eqO_ok h4, He.eqO_ok h5, He.eqO_ok h6, He.eqO_ok h7, of_decide_eq_true h8, h9⟩
def exaB (K : PySem.W.Frag) (x : Str) : Bool :=
  let C := He.ga K x
  He.eqO (PySem.W.findIn K (.ref C) "__getattribute__") (some (some (.builtin "BaseException.__getattribute__"))) &&
  (He.eqO (PySem.W.findIn K (.ref C) "__getattr__") (some none) &&
  (decide (PySem.W.subIn K (.ref C) (.type "BaseException") = some true) && (PySem.W.hasDictIn K C &&
  (He.eqO (PySem.W.findIn K (.ref C) "__class__") (some (some (.builtin "object.__class__"))) &&
  decide (PySem.W.mroIn K C (.type "object") = some true)))))
def exsB (K : PySem.W.Frag) : Bool :=
  He.eqO (PySem.W.specialIn K (.builtin "object.__class__") "__get__") (some (some (.builtin "getset_descriptor.__get__"))) &&
  decide (PySem.W.takesIn K (.builtin "object.__class__") = some true)
theorem exaB_ok {K : PySem.W.Frag} {x : Str} (h : exaB K x = true) (s : exsB K = true) : ExA K (He.ga K x) := by
  obtain ⟨h1, h⟩ := He.ba h
  obtain ⟨h2, h⟩ := He.ba h
  obtain ⟨h3, h⟩ := He.ba h
  obtain ⟨h4, h⟩ := He.ba h
  obtain ⟨h5, h6⟩ := He.ba h
  obtain ⟨s1, s2⟩ := He.ba s
  exact ⟨He.eqO_ok h1, He.eqO_ok h2, of_decide_eq_true h3, h4, He.eqO_ok h5, He.eqO_ok s1, of_decide_eq_true s2, of_decide_eq_true h6⟩

/-- its __init__, of the text st -/
theorem init_of {K : PySem.W.Frag} {f : Addr} {fd : FuncData} {qual fld : Str} {st : Stmt} {q1 q2 q3 q4 : Pos}
    (F : Fun K "__init__" qual st f fd)
    (hb : defBody st = [.Assign [.Attribute (.Name "self" q1) fld q2] (.Name fld q3) q4])
    (hs : defScope st = { kind := .function, names := [("self", .local), (fld, .local)], isGenerator := false, isCoroutine := false, more := [] }) :
    InitDef K f qual fld fd := by
  obtain ⟨oc, od, kV, doc, pm, an, cdv, ct, osl, rfl, lk, hcd⟩ := F.ex
  exact ⟨oc, od, kV, doc, pm, an, cdv, ct, osl, defArgs st, _, q1, q2, q3, q4, by rw [hb, hs], rfl, lk, hcd⟩
end Tc
/-! except (A, B, C) as n. -/
namespace Tc
open PySem PySem.Spec PyProof.Rows L2
theorem flying_on {B : Heap} {l : List Env} {e : Addr} {Z : Obj → Prop} {h h' : Heap} (k : ∀ b o, h.get? b = some o → h'.get? b = some o) (f : HandSPX.FlyingZ B l e Z h) : HandSPX.FlyingZ B l e Z h' := by
  obtain ⟨f1, f2, f3, oe, vs, T, oT, ts, q1, q2, q3, q4, q5, q6, q7, q8, q9⟩ := f
  exact ⟨fun b o z => k b o (f1 b o z), f2, f3.of_keeps (fun b o z _ => ⟨o, k b o z, rfl⟩), oe, vs, T, oT, ts, k _ _ q1, q2, q3, q4, q5, q6, k _ _ q7, q8, q9⟩
/-- what such a clause wishes: it takes whatever comes -/
def wAs3 (K : PySem.W.Frag) (cs : List Value) (i : Nat) (ts : Addr → Value → Option Addr → TS) (D : Ends) : WX := fun cls d σ H =>
  PySem.W.exmAny K cls cs = some true ∧ ∀ a, H a = none →
    ts a cls d { nx := fun σ' H' => D.nx (σ'.set i none) H', rt := D.rt, bk := fun σ' H' => D.bk (σ'.set i none) H', ct := fun σ' H' => D.ct (σ'.set i none) H' } (σ.set i (some (.ref a))) H
section
variable {X : Cx} {x1 x2 x3 n : Str} {c1 c2 c3 : Value} {i kk : Nat} {body suite : List Stmt} {b₀ : Stmt} {p1 p2 p3 tp pos pos' : Pos} {tb : WX → TS} {ts : Addr → Value → Option Addr → TS}
theorem ps_try_as3 (hs : X.stack = X.env :: X.outer) (hf : X.env.frame = some X.env.locals) (hN : X.N.Nodup) (hi : X.N[i]? = some n) (hln : X.env.kindOf n = some .local)
    (g1 : Gl X x1) (m1 : X.mg x1 = some c1) (g2 : Gl X x2) (m2 : X.mg x2 = some c2) (g3 : Gl X x3) (m3 : X.mg x3 = some c3)
    (hb : ∀ (W : WX) (pn : List (Addr × Obj)) (xe : Value → Shared → Prop), Takes (X.tr pn xe) W → PassesOwn (model X.prog X.w) X.A X.env xe → PSs (X.tr pn xe) body (tb W))
    (hsu : ∀ (a : Addr) (oe : Obj) (cls : Value) (d : Option Addr) (pn : List (Addr × Obj)), Zc cls d oe → (∃ vs, oe.data = .fields vs) → PSs (X.suite a ((a, oe) :: pn)) (b₀ :: suite) (ts a cls d))
    (d1 : (x1 == ("__debug__" : Str)) = false := by decide) (d2 : (x2 == ("__debug__" : Str)) = false := by decide) (d3 : (x3 == ("__debug__" : Str)) = false := by decide) :
    PS X (.Try body [.ExceptHandler (some (.Tuple [.Name x1 p1, .Name x2 p2, .Name x3 p3] kk tp)) (some n) (b₀ :: suite) pos'] [] [] pos) (fun D σ H => tb (wAs3 X.K [c1, c2, c3] i ts D) D σ H) := by
  constructor
  intro pins s σ H D I h
  have ok := I.ok
  have frm : X.A.frames = some (X.env :: X.outer) := by rw [ok.frames, hs]
  refine wpAny_Try_except ?_
  refine wpAny_mono ((hb (wAs3 X.K [c1, c2, c3] i ts D) (X.pn ++ pins)
    (fun e s₁ => wpAny (model X.prog X.w) X.A (noteFrame e X.env)
      (fun _ s₂ => wpAny (model X.prog X.w) X.A (setFlight e none)
        (fun _ s₃ => wpAny (model X.prog X.w) X.A (handleBy e X.env [.ExceptHandler (some (.Tuple [.Name x1 p1, .Name x2 p2, .Name x3 p3] kk tp)) (some n) (b₀ :: suite) pos']) (SP X pins D) X.xe s₃)
        X.xe s₂) X.xe s₁)
    (fun u s' xx => ?_) PassesOwn.looking).run [] s σ H D (I.toTry _) h) (fun f s1 hsp => ?_) (fun e s1 he => he)
  · obtain ⟨a, B, sI, pins', σ', H', cls, d, rfl, J', nb, up, sky, na, os, ag, hb1, hyes⟩ := xx
    have J : Inv X pins σ' H' sI := J'.ofTry ok
    rw [hs] at sky
    show wpAny (model X.prog X.w) X.A (noteFrame (.ref a) X.env) _ _ _
    refine Sky.land Zc.steady frm hf sky fun h3 fl3 up3 => ?_
    have J3 : Inv X pins σ' H' { s' with heap := h3 } := J.landed nb fl3.1 (up.trans up3) os ag
    obtain ⟨oe3, vs3, he3, hz3, hd3⟩ := fl3.there
    have nfr : a ∉ frs (X.env :: X.outer) := fun hm => by
      obtain ⟨_, o', e', hnf⟩ := fl3.2.2.1.mem hm
      rw [he3] at e'
      cases e'
      exact hnf _ hd3
    have nL : a ≠ X.env.locals := fun z =>
      nfr (List.mem_filterMap.mpr ⟨X.env, List.mem_cons_self, by rw [hf, z]⟩)
    have nF : a ∉ X.fs := fun hm => by
      obtain ⟨e, he, q⟩ := List.mem_filterMap.mp hm
      exact nfr (List.mem_filterMap.mpr ⟨e, List.mem_cons_of_mem _ he, q⟩)
    have S3 := J3.suite he3 hd3 na nL nF
    refine wpAny_handleBy_cons (codeAny_handlers_test ?_) (by intro q; cases q)
    -- the tuple of classes
    refine wpAny_Tuple_spliced ?_
    have nm : ∀ {x : Str} {c : Value} {p : Pos} {Q : Value → Shared → Prop} {E : Value → Shared → Prop}, Gl X x → X.mg x = some c → (x == ("__debug__" : Str)) = false → Q c { s' with heap := h3 } →
        wpAny (model X.prog X.w) (X.A.mark (some (.ref a))) (eval (.Name x p) X.env) Q E { s' with heap := h3 } := fun hg hm hd q =>
      ld_glob (X := X.suite a ((a, oe3) :: (X.pn ++ pins))) S3 hg hm q hd
    show wpAny _ _ (spliced [(false, eval (.Name x1 p1) X.env), (false, eval (.Name x2 p2) X.env), (false, eval (.Name x3 p3) X.env)]) _ _ _
    refine Calls.spliced_cons (nm g1 m1 d1 (Calls.spliced_cons (nm g2 m2 d2 (Calls.spliced_cons (nm g3 m3 d3 (Calls.spliced_nil ⟨by show 3 ≤ sizeLine; decide, ?_⟩))))))
    have kp : ∀ b o, h3.get? b = some o → (h3.push { cls := .type "tuple", data := .seq [c1, c2, c3].toArray }).get? b = some o := fun b o z => Heap.get?_push_of_some _ z
    have fl3' := flying_on kp fl3
    have up3' := (up.trans up3).trans (Heap.UpToSlots.of_keeps kp)
    have KX : X.K.In (h3.push { cls := .type "tuple", data := .seq [c1, c2, c3].toArray }) := fun b o z => kp b o (J3.kIn b o z)
    have LT : PySem.W.Looks (model X.prog X.w) (h3.push { cls := .type "tuple", data := .seq [c1, c2, c3].toArray }) (typeOf (.ref a)) cls := fun A Q E s k q =>
      wpAny_typeOf_ref (k _ _ (kp _ _ he3)) (by rw [hz3.1]; exact q)
    refine (PySem.W.exm_tup3 (M := model X.prog X.w) (tp := h3.objs.size) KX LT (Heap.get?_push_size _ rfl) hb1).here ?_
    refine codeAny_handlers_suite_as ?_
    refine HandSPX.lands_againZ fl3' fun h4 fl4 up4 => ?_
    have J4 : Inv X pins σ' H' { s' with heap := h4 } := J.landed nb fl4.1 (up3'.trans up4) os ag
    obtain ⟨oe4, vs4, he4, hz4, hd4⟩ := fl4.there
    have S4 := J4.suite he4 hd4 na nL nF
    refine store_ok (X := X.suite a ((a, oe4) :: (X.pn ++ pins))) (v := .ref a) S4 hN hi (.inl hln) rfl (fun s5 S5 => ?_) (.inr hln)
    refine wpAny_mono ((hsu a oe4 cls d (X.pn ++ pins) hz4 ⟨_, hd4⟩).run [] s5 _ H' _ S5 (hyes a na)) (fun f s6 hsp => ?_) (fun _ _ z => False.elim z)
    have out : ∀ {σ6 : L2.St} {H6 : Hp} {Q : Shared → Prop}, Inv (X.suite a ((a, oe4) :: (X.pn ++ pins))) [] σ6 H6 s6 → (∀ s7, Inv X pins (σ6.set i none) H6 s7 → Q s7) →
        wpAny (model X.prog X.w) X.A (do bindName X.env n .none; unbindBehindTheSuite X.env n pos') (fun _ s7 => Q s7) X.xe s6 := fun S6 hq => gone_ok (S6.unsuite ok) hN hi hln hq
    cases f with
    | ret u =>
      obtain ⟨v6, σ6, H6, S6, r6, q6⟩ := hsp
      exact out S6 fun s7 J7 => ⟨_, _, _, J7, r6, q6⟩
    | next | brk | cont =>
      obtain ⟨σ6, H6, S6, q6⟩ := hsp
      exact out S6 fun s7 J7 => ⟨_, _, J7, q6⟩
  · cases f with
    | ret u =>
      obtain ⟨v, σ', H', J', r, q⟩ := hsp
      exact ⟨v, σ', H', J'.ofTry ok, r, q⟩
    | next =>
      obtain ⟨σ', H', J', q⟩ := hsp
      exact wpAny_execs_nil ⟨σ', H', J'.ofTry ok, q⟩
    | brk | cont =>
      obtain ⟨σ', H', J', q⟩ := hsp
      exact ⟨σ', H', J'.ofTry ok, q⟩
end
end Tc
/-! raise X(e), X with its own __init__; what a suite asks of the exception that it holds. -/
namespace Tc
open PySem PySem.Spec PyProof.Rows L2
section
variable {X : Cx} {pins : List (Addr × Obj)} {σ : L2.St} {H : Hp} {C fI e d : Addr} {B newId initId : String}
  {bmB : List Value} {fld qual : Str} {fd : FuncData} {v : V} {u : Value}
/-- behind X(e): the exception itself is not tracked, its dict is -/
theorem made_up {hp h' : Heap} {g : Array GenState} {dr : Drawn} {tk tk' : Nat} {os : OsState}
    (I : Inv X pins σ H ⟨hp, g, dr, tk, os⟩) (M : MadeX hp h' e C d fld u) (rv : RelV v u) :
    H e = none ∧ H d = none ∧ d ≠ e ∧ ∃ G : Heap, Inv X pins σ (upd H d (.xd [(fld, v)])) ⟨G, g, dr, tk', os⟩ ∧ (∀ b o, G.get? b = some o → h'.get? b = some o) ∧ G.get? e = none := by
  have he : H e = none := I.hok.fresh M.new
  have hd : H d = none := I.hok.fresh M.big
  obtain ⟨G, g1, g2⟩ := restrict h' fun b => decide (b ≠ e)
  have gk : ∀ b, b ≠ e → G.get? b = h'.get? b := fun b hb => g1 b (decide_eq_true hb)
  have ge : G.get? e = none := g2 e (by simp)
  have old : ∀ b o, hp.get? b = some o → G.get? b = some o := by
    intro b o q
    have hb : b ≠ e := Nat.ne_of_lt (Nat.lt_of_lt_of_le (Heap.lt_size q) M.new)
    rw [gk b hb]
    exact M.keep b o q
  have one : ObjOk X.prog X.w (upd H d (.xd [(fld, v)])) G d (.xd [(fld, v)]) := by
    refine ⟨fun y => if y = fld then some u else none, M.ns.at fun o q => (gk d M.dne).trans q, relO_one rv⟩
  refine ⟨he, hd, M.dne, G, I.laid (t' := tk') old M.big one, fun b o q => ?_, ge⟩
  by_cases hb : b = e
  · rw [hb, ge] at q
    cases q
  · exact (gk b hb).symm.trans q
/-- raise's X(e) -/
def tMkX (C : Addr) (fld : Str) (te : TE) : L2.St → Hp → XK → Prop := fun σ H Q => te σ H fun v H1 => ∀ d, H1 d = none → Q (.ref C) (some d) (upd H1 d (.xd [(fld, v)]))
variable {x : Str} {p pos : Pos} {ee : Expr} {te : TE} {k : Nat}
theorem pmk_newX (N : NewAble X.K X.mg x fld C) (hE : PySem.W.subIn X.K (.ref C) (.type "BaseException") = some true) (hT : PySem.W.typeIn X.K (.ref C) = some (.type "type"))
    (hr : Room k X.A) (hg : Gl X x) (he : PE X ee te)
    (hs : starEach [ee] X.env = (false, eval ee X.env) :: starEach [] X.env := by rfl)
    (hdb : (x == ("__debug__" : Str)) = false := by decide) :
    PMk X (.Call (.Name x p) [ee] [] pos) (tMkX C fld te) := by
  obtain ⟨fI, B, newId, initId, bmB, qual, fd, Z, fn, D, b1, b2⟩ := N.ex
  intro pins s σ H Q I h
  refine wpAny_Call_Name_kw (ld_glob I hg N.gm ?_ hdb)
  refine PySem.W.callWith_K (h₀ := X.base) I.ok.mod.kin Z.kp ?_ hs (by rfl)
  rw [hs]
  show wpAny _ _ (spliced ((false, eval ee X.env) :: backTo pos (starEach [] X.env))) _ _ s
  refine Calls.spliced_cons (thn (he.run pins s σ H _ I h) ?_)
  rintro u s1 ⟨v, H1, I1, r1, q1⟩
  refine Calls.spliced_nil ⟨I1.kIn, ?_⟩
  obtain ⟨hp, g, dr, tk, os⟩ := s1
  refine wpAny_call (made_run (rest := [u]) (kw := []) Z fn D I1.kIn I1.nolimit (by have := hr.dp; omega) (by rw [sizeLine_eq]; show 1 ≤ 16777216; decide) (fun s y => b1 u s y) ?_)
  intro h' tk' e d M
  obtain ⟨he', hd', ne, G, J, kG, ge⟩ := made_up (tk' := tk') I1 M r1
  obtain ⟨t1, hob⟩ := M.obj
  exact ⟨e, _, _, ⟨G, g, dr, tk', os⟩, _, .ref C, some d, rfl, J, kG, ge, hob, ⟨rfl, rfl⟩, rfl, rfl, by rw [upd_ne ne.symm]; exact he', rfl, I1.bare, raises_own hE hT, q1 d hd'⟩
/-- isinstance(e, c), e the exception that the suite holds, its dict tracked -/
def rIsH (K : PySem.W.Frag) (a D d : Addr) : List V → Hp → VK → Prop := fun xs H Q => ∃ (c : V) (cv : Value) (b : Bool) (fs : List (Str × V)),
  xs = [.ref a, c] ∧ H d = some (.xd fs) ∧ ClsV c cv ∧ PySem.W.kitOne K (.ref D) cv = some b ∧ Q (.bl b) H
theorem call_isH {a D d : Addr} {oe : Obj} {pn : List (Addr × Obj)} (T : ExA X.K D) (hz : Zc (.ref D) (some d) oe) (hf : ∃ vs, oe.data = .fields vs) :
    CallR (X.suite a ((a, oe) :: pn)) (.builtin "isinstance") (rIsH X.K a D d) := by
  intro pins s σ H xs us Q I r h
  obtain ⟨c, cv, b, fs, rfl, hd, hc, e, q⟩ := h
  cases r with
  | cons rx rr =>
    cases rr with
    | cons rt rr =>
      cases rr
      cases rx
      have ec := hc.eq rt
      subst ec
      obtain ⟨ha, _⟩ := I.pin (a, oe) (List.mem_append_left _ List.mem_cons_self)
      obtain ⟨vs, hv⟩ := hf
      have hx : ObjOk X.prog X.w H s.heap d (.xd fs) := I.hok d _ hd
      obtain ⟨mA, hns, _⟩ := hx
      obtain ⟨od, ho, _⟩ := lookIn_ns hns
      have J : PySem.W.InstAt s.heap a oe D (some od) := ⟨ha, hz.1, by unfold PySem.W.notCls; rw [hv] <;> rfl, by rw [hz.2]; exact ho⟩
      have cl : (PySem.W.clsIn X.K D).isSome = true := by
        obtain ⟨cd, hcd, _⟩ := PySem.W.any_some T.own
        rw [hcd]
        rfl
      refine PySem.W.kia_one (PySem.W.kitx_exc cl T.ga T.gg T.ex T.kc T.sn T.tk T.mo) I.kIn J e (fun z => nomatch z) ?_
      intro tk
      exact ⟨.bl b, H, I.kept (t' := tk) fun _ _ z => z, rfl, q⟩
end
end Tc
/-! xs.count(b), xs a list of bools. -/
namespace Tc
open PySem PySem.Spec PyProof.Rows L2
def eqb (b : Bool) (v : Value) : Bool := match v with
  | .bool c => c == b
  | _ => false
/-- xs.count(b) -/
def rCntB (K : PySem.W.Frag) : V → List V → Hp → VK → Prop := fun x xs H Q => ∃ (p : Addr) (bs : List Bool) (b : Bool), x = .ref p ∧ xs = [.bl b] ∧ SqL K H p (bs.map V.bl) ∧ Q (.int (bs.count b : Nat)) H
theorem bools_are : ∀ {bs : List Bool} {us : List Value}, Vals (bs.map V.bl) us → us = bs.map Value.bool
  | [], _, h => by cases h; rfl
  | b :: bs, _, h => by
    cases h with
    | cons h1 h2 =>
      have e1 : _ = Value.bool b := h1
      rw [e1, bools_are h2]
      rfl
theorem mt_countB {X : Cx} : MtR X "list.count" (rCntB X.K) := by
  intro pins s σ H x xs v us Q I rx rxs h
  obtain ⟨p, bs, b, rfl, rfl, hs, q⟩ := h
  cases rx
  obtain ⟨u, rfl, ru⟩ := rxs.one
  obtain rfl : u = Value.bool b := ru
  obtain ⟨its, rv, ⟨⟨cls, dd, data, sl⟩, n, ho, hc, hdn, hd⟩, hlen⟩ := I.list hs
  simp only at hc hd
  subst hc hd
  obtain rfl := bools_are rv
  refine call_meets PySem.F.slot_list_count ⟨_, ho, rfl⟩ PySem.F.entry_list_count (PySem.F.args_list_count_2 _ _)
    (SeqAt.list_countAt p (bs.map Value.bool).toArray n dd sl (.bool b) (eqb b)) ⟨ho, fun y hy => ?_, ?_⟩
  · have hy : y ∈ bs.map Value.bool := by simpa using hy
    obtain ⟨c, _, rfl⟩ := List.mem_map.mp hy
    exact SeqAt.EqAt.bool_bool c b
  · have ec : (bs.map Value.bool).toArray.toList.countP (eqb b) = bs.count b := by
      show (bs.map Value.bool).countP (eqb b) = _
      rw [List.countP_map] <;> rfl
    refine ⟨.int (bs.count b : Nat), H, I.tok _, ⟨s.toks, ?_⟩, q⟩
    show Value.int _ s.toks = Value.int _ s.toks
    rw [ec]
end Tc
namespace Tc
open PySem PySem.Spec PyProof.Rows L2
mutual
theorem Dv.mono {H H' : Hp} (s : Same H H') : ∀ {v : V} {d : PyData}, Dv H v d → Dv H' v d
  | _, _, .non => .non
  | _, _, .bl b => .bl b
  | _, _, .int i => .int i
  | _, _, .str x => .str x
  | _, _, .lst h a => .lst (h.elim (fun z => .inl (s _ _ z)) fun ⟨o, z⟩ => .inr ⟨o, s _ _ z⟩) (DvAll.mono s a)
  | _, _, .tup h a => .tup (h.elim (fun z => .inl (s _ _ z)) fun ⟨o, z⟩ => .inr ⟨o, s _ _ z⟩) (DvAll.mono s a)
  | _, _, .dct h a => .dct (h.elim (fun z => .inl (s _ _ z)) fun ⟨o, z⟩ => .inr ⟨o, s _ _ z⟩) (DvKv.mono s a)
theorem DvAll.mono {H H' : Hp} (s : Same H H') : ∀ {vs : List V} {ds : List PyData}, DvAll H vs ds → DvAll H' vs ds
  | _, _, .nil => .nil
  | _, _, .cons a b => .cons (Dv.mono s a) (DvAll.mono s b)
theorem DvKv.mono {H H' : Hp} (s : Same H H') : ∀ {kvs : List (Key × V)} {ds : List (PyData × PyData)}, DvKv H kvs ds → DvKv H' kvs ds
  | _, _, .nil => .nil
  | _, _, .cons a b => .cons (Dv.mono s a) (DvKv.mono s b)
end
theorem Same.new {H : Hp} {p : Addr} {o : HO} (h : H p = none) : Same H (upd H p o) := fun b u e => by
  rw [upd_ne (ne_of_none e h)]
  exact e
theorem Same.new2 {H : Hp} {p : Addr} {o u : HO} (h : H p = none) : Same H (upd (upd H p o) p u) := fun b z e => by
  rw [upd_ne (ne_of_none e h), upd_ne (ne_of_none e h)]
  exact e
/-- data that repr shows -/
def Good (d : PyData) : Prop := d.showable = true ∧ d.depth ≤ 100 ∧ d.shown.length ≤ sizeLine
instance (d : PyData) : Decidable (Good d) := by unfold Good; exact inferInstance
/-- a def's call, told by what it keeps -/
theorem Call.of {P : Program} {w : World} {K : PySem.W.Frag} {mg : Str → Option Value} {base : Heap} {CX : CXT} {k : Nat} {x qual : Str} {st : Stmt} {f : Addr} {fd : FuncData} {ps : List Str} {sp : Sp}
    (F : Fun K x qual st f fd) (G : FnG P w K mg base CX k f fd ps sp) (gm : mg x = some (.ref f))
    (h : ∀ (kV doc pm : Value) (an : Option Addr) (cdv ct : Value) (us : List Value), us.length = ps.length → bindArgs (PySem.W.fnOf x qual (defArgs st) (defBody st) (defScope st) .none kV doc pm an cdv ct) ⟨us, []⟩ = pure (ps.zip us)) :
    Call P w K mg base CX k x ps sp := ⟨f, fd, G, gm, F.kp, F.binds h⟩
end Tc
namespace Tc
open PySem PySem.Spec PyProof.Rows L2 Evl
/-- the lists at ps -/
inductive LL (H : Hp) : List Addr → List (List V) → Prop
  | nil : LL H [] []
  | snoc {ps : List Addr} {xss : List (List V)} {p : Addr} {xs : List V} : LL H ps xss → H p = some (.lst xs) → LL H (ps ++ [p]) (xss ++ [xs])
theorem LL.mono {H H' : Hp} : ∀ {ps : List Addr} {xss : List (List V)}, LL H ps xss → (∀ p ∈ ps, ∀ o, H p = some o → H' p = some o) → LL H' ps xss
  | _, _, .nil, _ => .nil
  | _, _, .snoc r h, s => .snoc (r.mono fun p hp => s p (List.mem_append_left _ hp)) (s _ (by simp) _ h)
/-- [a new list for each turn] -/
theorem lc_ll {J : It} {n : Nat} {G : Hp → Prop} {Y : Nat → Hp → V → Hp → Prop} {te : TE} {vs : List Nat} {j : Nat} {σ : L2.St} {H1 : Hp} {D : Addr} {Qd : Hp → Prop} (w : Walk J n G Y) (xv : Nat → V) (c : Nat → List V)
    (hD : H1 D = none) (hn : n ≤ 1000) (hY : ∀ i H x H', i < n → Y i H x H' → H' = H ∧ x = xv i) (hG : ∀ H', Ex H1 H' → G H') (hw : ∀ x, wipe ((wipe σ vs).set j (some x)) vs = wipe σ vs)
    (he : ∀ i H', i < n → Ex H1 H' → EvL te ((wipe σ vs).set j (some (xv i))) H' (c i))
    (q : ∀ ps H', Ex H1 H' → H' D = some (.lst (ps.map V.ref)) → LL H' ps ((List.range n).map c) → Qd H') :
    ∃ W : Nat → Nat → Hp → Prop, (∃ m, W 0 m (upd H1 D (.lst []))) ∧ ∀ i m H, W i m H →
      (J.stop i H ∧ Qd H) ∨ (J.go i H ∧ ∃ Nx : Hp → Prop, (∀ H', Nx H' → ∃ m', m' < m ∧ W (i + 1) m' H') ∧ ∀ x H', J.yld i H x H' → gName j x (wipe σ vs) H' fun σ2 H2 => wipe σ2 vs = wipe σ vs ∧ tYes σ2 H2 fun b H3 =>
        if b = true then te σ2 H3 fun y H4 => ∃ acc, H4 D = some (.lst acc) ∧ acc.length < sizeLine ∧ Nx (upd H4 D (.lst (acc ++ [y]))) else Nx H3) := by
  refine lc_it w (fun i H' => Ex H1 H' ∧ ∃ ps : List Addr, ps.length = i ∧ i ≤ n ∧ H' D = some (.lst (ps.map V.ref)) ∧ D ∉ ps ∧ LL H' ps ((List.range i).map c))
    ⟨Ex.new hD, [], rfl, Nat.zero_le _, upd_same, by simp, .nil⟩ (fun i H' _ p => hG H' p.1) ?_ (fun H' p => ?_)
  · rintro i x H H' hi ⟨p1, ps, p2, p3, p4, p5, p6⟩ y
    obtain ⟨rfl, rfl⟩ := hY i H x H' hi y
    refine ⟨hw _, ?_⟩
    simp only [tYes, eq_self, if_true]
    refine he i H' hi p1 H' (Evl.Ex.refl H') _ fun p H4 hp e4 h4 => ?_
    have pD : p ≠ D := fun z => by
      rw [z, p4] at hp
      cases hp
    refine ⟨ps.map V.ref, e4 _ _ p4, by rw [List.length_map, p2]; exact Nat.lt_of_lt_of_le hi (Nat.le_trans hn (by decide)), Ex.mut (p1.trans e4) hD, ps ++ [p], by simp [p2], hi, by rw [upd_same, List.map_append]; rfl, ?_, ?_⟩
    · simp only [List.mem_append, List.mem_singleton, not_or]
      exact ⟨p5, fun z => pD z.symm⟩
    · rw [List.range_succ, List.map_append]
      refine LL.mono (.snoc (p6.mono fun a _ o z => e4 a o z) h4) fun a ha o z => ?_
      rw [upd_ne (fun z' => by
        rw [z'] at ha
        exact (by simpa using ha : D ∈ ps ∨ D = p).elim p5 fun z2 => pD z2.symm)]
      exact z
  · obtain ⟨p1, ps, p2, p3, p4, p5, p6⟩ := p
    exact q ps H' p1 p4 p6
theorem Call.mono {P : Program} {w : World} {K : PySem.W.Frag} {mg : Str → Option Value} {base : Heap} {CX : CXT} {j k : Nat} {x : Str} {ps : List Str} {sp : Sp} (F : Call P w K mg base CX j x ps sp) (h : j ≤ k) : Call P w K mg base CX k x ps sp := by
  obtain ⟨f, fd, G, r⟩ := F.ex
  exact ⟨f, fd, G.mono h, r⟩
/-- a whole number of the module -/
theorem pe_num {X : Cx} {x : Str} {n : Int} {p : Pos} (h : ∃ t, X.mg x = some (.int n t)) (hg : Gl X x) (hd : (x == ("__debug__" : Str)) = false := by decide) : PE X (.Name x p) (tC (.int n)) := by
  obtain ⟨t, e⟩ := h
  exact pe_glob hg e ⟨_, rfl⟩ hd
end Tc
/-! a op b op c op d; which class data are of. -/
namespace Tc
open PySem PySem.Spec PyProof.Rows L2
section
variable {X : Cx} {a b c d : Expr} {ta tb tc td : TE} {pos : Pos}
/-- a op b op c op d -/
def tChain3 (r r' r'' : R2) (ta tb tc td : TE) : TE := fun σ H Q => ta σ H fun x H1 => tb σ H1 fun y H2 => r x y H2 fun z H3 => ∃ k, z = .bl k ∧
  if k = true then tc σ H3 fun w H4 => r' y w H4 fun z H5 => ∃ k, z = .bl k ∧ (if k = true then td σ H5 fun v H6 => r'' w v H6 Q else Q (.bl false) H5)
  else Q (.bl false) H3
theorem pe_chain3 {op op' op'' : CmpOp} {r r' r'' : R2} (ho : OpR X (compareOp op) r) (ho' : OpR X (compareOp op') r') (ho'' : OpR X (compareOp op'') r'') (ha : PE X a ta) (hb : PE X b tb) (hc : PE X c tc) (hd : PE X d td)
    (hm : lastMarks [op, op', op''] [b, c, d] = false := by with_unfolding_all rfl) : PE X (.Compare a [op, op', op''] [b, c, d] pos) (tChain3 r r' r'' ta tb tc td) := by
  constructor
  intro pins s σ H Q I h
  refine Compare_chain (thn (ha.run pins s σ H _ I h) ?_) hm
  rintro v s1 ⟨x, H1, I1, r1, q1⟩
  refine chain_link (thn (hb.run pins s1 σ H1 _ I1 q1) ?_)
  rintro u s2 ⟨y, H2, I2, r2, q2⟩
  refine thn (ho pins s2 σ H2 x y v u _ I2 r1 r2 q2) ?_
  rintro e s3 ⟨z, H3, I3, r3, k, rfl, q3⟩
  cases r3
  refine wpAny_truthy_bool ?_
  cases k with
  | false => exact ite_ff ⟨.bl false, H3, I3, rfl, q3⟩
  | true =>
    refine ite_tt (chain_link (thn (hc.run pins s3 σ H3 _ I3 q3) ?_))
    rintro u4 s4 ⟨w, H4, I4, r4, q4⟩
    refine thn (ho' pins s4 σ H4 y w u u4 _ I4 r2 r4 q4) ?_
    rintro e s5 ⟨z, H5, I5, r5, k, rfl, q5⟩
    cases r5
    refine wpAny_truthy_bool ?_
    cases k with
    | false => exact ite_ff ⟨.bl false, H5, I5, rfl, q5⟩
    | true =>
      refine ite_tt (chain_last (thn (hd.run pins s5 σ H5 _ I5 q5) ?_))
      rintro u6 s6 ⟨v6, H6, I6, r6, q6⟩
      exact ho'' pins s6 σ H6 w v6 u4 u6 Q I6 r4 r6 q6
end
/-- the class of data -/
def tyD : PyData → String
  | .none => "NoneType"
  | .bool _ => "bool"
  | .int _ => "int"
  | .str _ => "str"
  | .list _ => "list"
  | .tuple _ => "tuple"
  | .dict _ => "dict"
theorem Dv.ty {K : PySem.W.Frag} {H : Hp} {v : V} {d : PyData} (h : Dv H v d) : TyX K H v (.type (tyD d)) := by
  cases h with
  | non => exact .base .non
  | bl b => exact .base (.bl b)
  | int i => exact .base (.int i)
  | str x => exact .base (.str x)
  | lst h _ => exact h.elim (fun h => .base (.lst h)) fun ⟨o, h⟩ => .base (.frz h)
  | tup h _ => exact h.elim (fun h => .base (.tup h)) fun ⟨o, h⟩ => .fTuple h
  | dct h _ => exact h.elim (fun h => .base (.dK h)) fun ⟨o, h⟩ => .fDict h
/-- isinstance of two built-in classes -/
def tyIs (a b : String) : Bool := (Value.type a == Value.type b) || ((fastBuiltinMro a).map fun l => l.contains (.type b)) == some true
theorem kit_ty {K : PySem.W.Frag} {a b : String} (h : (PySem.W.kitMeta b && (fastBuiltinMro a).isSome) = true) : PySem.W.kitOne K (.type a) (.type b) = some (tyIs a b) := by
  obtain ⟨h1, h2⟩ := Bool.and_eq_true_iff.mp h
  obtain ⟨l, hl⟩ := Option.isSome_iff_exists.mp h2
  unfold PySem.W.kitOne tyIs
  by_cases e : (Value.type a == Value.type b) = true
  · rw [if_pos e, e] <;> rfl
  · rw [if_neg e]
    have e2 : (Value.type a == Value.type b) = false := Bool.eq_false_iff.mpr e
    unfold PySem.W.kitCls
    show (if PySem.W.kitMeta b = true then PySem.W.subIn K (.type a) (.type b) else none) = _
    rw [if_pos h1, e2]
    show (fastBuiltinMro a).map _ = _
    rw [hl]
    show some (l.contains (Value.type b)) = some (false || (some (l.contains (Value.type b)) == some true))
    cases l.contains (Value.type b) <;> rfl
theorem metas : ∀ b ∈ ["int", "bool", "tuple", "str", "list"], ∀ a ∈ ["NoneType", "bool", "int", "str", "list", "tuple", "dict"], (PySem.W.kitMeta b && (fastBuiltinMro a).isSome) = true := by decide +kernel
theorem tyD_mem (d : PyData) : tyD d ∈ ["NoneType", "bool", "int", "str", "list", "tuple", "dict"] := by
  cases d <;> simp [tyD]
/-- isinstance(v, T), v data -/
theorem isi_D {K : PySem.W.Frag} {H : Hp} {v : V} {d : PyData} {T : String} {Q : VK} (h : Dv H v d) (hT : T ∈ ["int", "bool", "tuple", "str", "list"]) (q : Q (.bl (tyIs (tyD d) T)) H) : rIsi K [v, .ty T] H Q :=
  ⟨v, .ty T, _, _, _, rfl, .ty T, h.ty, kit_ty (metas T hT _ (tyD_mem d)), q⟩
/-- as a reading -/
theorem q_isi {K : PySem.W.Frag} {σ : L2.St} {i : Nat} {H : Hp} {v : V} {d : PyData} {T : String} {Q : VK} (hs : σ[i]? = some (some v)) (h : Dv H v d) (hT : T ∈ ["int", "bool", "tuple", "str", "list"]) (q : Q (.bl (tyIs (tyD d) T)) H) :
    tCB (rIsi K) (tCons (tVar i) (tCons (tC (.ty T)) tNil)) σ H Q := ⟨v, hs, isi_D (Q := Q) h hT q⟩
theorem ty_int : ∀ d : PyData, tyIs (tyD d) "int" = (match d with | .int _ => true | .bool _ => true | _ => false) := by
  have h : tyIs "NoneType" "int" = false ∧ tyIs "bool" "int" = true ∧ tyIs "int" "int" = true ∧ tyIs "str" "int" = false ∧ tyIs "list" "int" = false ∧ tyIs "tuple" "int" = false ∧ tyIs "dict" "int" = false := by decide +kernel
  obtain ⟨h1, h2, h3, h4, h5, h6, h7⟩ := h
  intro d
  cases d <;> simp only [tyD] <;> assumption
theorem ty_bool : ∀ d : PyData, tyIs (tyD d) "bool" = (match d with | .bool _ => true | _ => false) := by
  have h : tyIs "NoneType" "bool" = false ∧ tyIs "bool" "bool" = true ∧ tyIs "int" "bool" = false ∧ tyIs "str" "bool" = false ∧ tyIs "list" "bool" = false ∧ tyIs "tuple" "bool" = false ∧ tyIs "dict" "bool" = false := by decide +kernel
  obtain ⟨h1, h2, h3, h4, h5, h6, h7⟩ := h
  intro d
  cases d <;> simp only [tyD] <;> assumption
theorem ty_tuple : ∀ d : PyData, tyIs (tyD d) "tuple" = (match d with | .tuple _ => true | _ => false) := by
  have h : tyIs "NoneType" "tuple" = false ∧ tyIs "bool" "tuple" = false ∧ tyIs "int" "tuple" = false ∧ tyIs "str" "tuple" = false ∧ tyIs "list" "tuple" = false ∧ tyIs "tuple" "tuple" = true ∧ tyIs "dict" "tuple" = false := by decide +kernel
  obtain ⟨h1, h2, h3, h4, h5, h6, h7⟩ := h
  intro d
  cases d <;> simp only [tyD] <;> assumption
theorem ty_str : ∀ d : PyData, tyIs (tyD d) "str" = (match d with | .str _ => true | _ => false) := by
  have h : tyIs "NoneType" "str" = false ∧ tyIs "bool" "str" = false ∧ tyIs "int" "str" = false ∧ tyIs "str" "str" = true ∧ tyIs "list" "str" = false ∧ tyIs "tuple" "str" = false ∧ tyIs "dict" "str" = false := by decide +kernel
  obtain ⟨h1, h2, h3, h4, h5, h6, h7⟩ := h
  intro d
  cases d <;> simp only [tyD] <;> assumption
theorem Dv.isT {H : Hp} {v : V} {ds : List PyData} (h : Dv H v (.tuple ds)) : ∃ a xs, v = .ref a ∧ Rd H a (.tup xs) ∧ DvAll H xs ds := by
  cases h with
  | tup h1 h2 => exact ⟨_, _, rfl, h1, h2⟩
theorem DvAll.len {H : Hp} : ∀ {vs : List V} {ds : List PyData}, DvAll H vs ds → vs.length = ds.length
  | _, _, .nil => rfl
  | _, _, .cons _ h => congrArg Nat.succ h.len
end Tc
/-! calls of defs that may stand under a repr, by place and by name. -/
namespace Tc
open PySem PySem.Spec PyProof.Rows L2
/-- as Call, whoever calls -/
structure CallO (P : Program) (w : World) (K : PySem.W.Frag) (mg : Str → Option Value) (base : Heap) (CX : CXT)
    (k : Nat) (x : Str) (ps : List Str) (sp : Sp) : Prop where
  ex : ∃ f fd, FnOk P w K mg base CX k f fd ps sp ∧ mg x = some (.ref f) ∧ PySem.W.keepIn K (.ref f) = true ∧ Binds K fd ps []
theorem CallO.call {P : Program} {w : World} {K : PySem.W.Frag} {mg : Str → Option Value} {base : Heap} {CX : CXT} {k : Nat} {x : Str} {ps : List Str} {sp : Sp}
    (F : CallO P w K mg base CX k x ps sp) : Call P w K mg base CX k x ps sp := by
  obtain ⟨f, fd, G, r⟩ := F.ex
  exact ⟨f, fd, .of G, r⟩
theorem CallO.of {P : Program} {w : World} {K : PySem.W.Frag} {mg : Str → Option Value} {base : Heap} {CX : CXT} {k : Nat} {x qual : Str} {st : Stmt} {f : Addr} {fd : FuncData} {ps : List Str} {sp : Sp}
    (F : Fun K x qual st f fd) (G : FnOk P w K mg base CX k f fd ps sp) (gm : mg x = some (.ref f))
    (h : ∀ (kV doc pm : Value) (an : Option Addr) (cdv ct : Value) (us : List Value), us.length = ps.length → bindArgs (PySem.W.fnOf x qual (defArgs st) (defBody st) (defScope st) .none kV doc pm an cdv ct) ⟨us, []⟩ = pure (ps.zip us)) :
    CallO P w K mg base CX k x ps sp := ⟨f, fd, G, gm, F.kp, F.binds h⟩
/-- called by names alone: ns, which the values vs, put in order by pm, are for -/
structure CallK (P : Program) (w : World) (K : PySem.W.Frag) (mg : Str → Option Value) (base : Heap) (CX : CXT)
    (k : Nat) (x : Str) (ps : List Str) (sp : Sp) (ns : List Str) (pm : {α : Type} → List α → List α) : Prop where
  ex : ∃ f fd, FnOk P w K mg base CX k f fd ps sp ∧ mg x = some (.ref f) ∧ PySem.W.keepIn K (.ref f) = true ∧
    ∀ (s : Shared) (us : List Value), us.length = ns.length → BindsTo s fd ⟨[], ns.zip us⟩ (ps.zip (pm us))
  rel : ∀ {vs : List V} {us : List Value}, Vals vs us → Vals (pm vs) (pm us)
section
variable {X : Cx} {CX : CXT} {k : Nat} {ps ns : List Str} {sp : Sp} {E : XK} {x : Str} {p pos : Pos} {e : Expr} {es : List Expr} {t : TA} {pm : {α : Type} → List α → List α}
theorem pe_doO (F : CallO X.prog X.w X.K X.mg X.base CX k x ps sp) (hr : Room k X.A) (hg : Gl X x) (hx : Passes CX X E) (ha : PA X (e :: es) t)
    (hdb : (x == ("__debug__" : Str)) = false := by decide)
    (he : starEach (e :: es) X.env = (false, eval e X.env) :: starEach es X.env := by rfl)
    (hpl : (backTo pos (starEach es X.env)).any (·.1) = false := by rfl) :
    PE X (.Call (.Name x p) (e :: es) [] pos) (tCall sp [] E t) := by
  obtain ⟨f, fd, G, hm, hk, hb⟩ := F.ex
  exact pe_call G hr hg hm hk hb .nil hx ha hdb he hpl
def tCallK (sp : Sp) (pm : {α : Type} → List α → List α) (E : XK) (t : TA) : TE := fun σ H Q => t σ H fun vs H1 => sp (pm vs) H1 Q E
theorem pe_doK {ks : List Keyword} (F : CallK X.prog X.w X.K X.mg X.base CX k x ps sp ns pm) (hr : Room k X.A) (hg : Gl X x) (hx : Passes CX X E) (hk : PK X ks t)
    (hall : (backToKw pos (keywordEach ks X.env)).all (·.1.isSome) = true := by rfl)
    (hks : (backToKw pos (keywordEach ks X.env)).filterMap (·.1) = ns := by rfl)
    (hpl : ((backTo pos (starEach [] X.env)).any (·.1) || (backToKw pos (keywordEach ks X.env)).any (·.1.isNone)) = false := by rfl)
    (hl : ns.length = ks.length := by rfl) (hdb : (x == ("__debug__" : Str)) = false := by decide)
    (hlen : ∀ us vs H Q E, sp (pm vs) H Q E → Vals vs us → us.length = ns.length ∧ (pm us).length = ps.length) :
    PE X (.Call (.Name x p) [] ks pos) (tCallK sp pm E t) := by
  obtain ⟨f, fd, G, hm, kp, hb⟩ := F.ex
  constructor
  intro pins s σ H Q I h
  refine wpAny_Call_Name_kw (ld_glob I hg hm ?_ hdb)
  refine PySem.W.callWith_KW0 (h₀ := X.base) I.ok.mod.kin kp hall (thn (hk.run pos pins s σ H _ I h) ?_) hpl
  rintro us s1 ⟨vs, H1, I1, r, q⟩
  refine ⟨I1.kIn, ?_⟩
  rw [hks]
  have both := hlen us vs _ _ _ q r
  have main := G.run X.A X.stack s1 H1 ⟨[], ns.zip us⟩ (pm us) (pm vs) Q E hr I1.env0 (hb s1 us both.1) (F.rel r) q
  refine wpAny_call (codeAny_mono main ?_)
  intro res s' hq
  cases res with
  | error er => exact hx pins σ H1 s1 er s' I1 hq
  | ok fl =>
    cases fl with
    | ret u => exact I1.after hq
    | next | brk | cont => exact False.elim hq
end
end Tc
/-! The head's facts with the tables of defs that make lambdas; the law's end with these, no repr around. -/
namespace Tc
open PySem PySem.Spec PyProof.Rows L2
def frTM (g : Addr → Option Obj) : PySem.W.Frag := He.frT g (adsM g)
structure SaysTM (F : PySem.W.Frag → Bool) (fn : List He.FnD) (tf : List He.Defn) (h : Heap) (K : PySem.W.Frag) : Prop where
  core : SaysM F fn K
  hd : ∀ p ∈ tf, PySem.W.codeHdIn K (He.cT K p).1 (He.cT K p).2 = true
  out : ∀ p ∈ tf, K.lookup (He.cT K p).2 = none
  empty : ∀ p ∈ tf, h.get? (He.cT K p).2 = some { cls := .none, data := .fields #[] }
def obsTM (F : PySem.W.Frag → Bool) (fn : List He.FnD) (tf : List He.Defn) (g : Addr → Option Obj) : He.Al × Bool := (obsM F fn (frTM g), He.tabsB g tf (frTM g))
theorem saysTM_of {F : PySem.W.Frag → Bool} {fn : List He.FnD} {tf : List He.Defn} {h : Heap} (e : obsTM F fn tf h.get? = (He.valE fn, true)) : SaysTM F fn tf h (frTM h.get?) := by
  have e1 : obsM F fn (frTM h.get?) = He.valE fn := congrArg (fun z : He.Al × Bool => z.1) e
  have e2 : He.tabsB h.get? tf (frTM h.get?) = true := congrArg (fun z : He.Al × Bool => z.2) e
  have at_ : ∀ p ∈ tf, PySem.W.codeHdIn (frTM h.get?) (He.cT (frTM h.get?) p).1 (He.cT (frTM h.get?) p).2 = true ∧ ∃ o, h.get? (He.cT (frTM h.get?) p).2 = some o ∧ He.emptyTab o = true := by
    intro p hp
    obtain ⟨a, b⟩ := He.ba (List.all_eq_true.mp e2 p hp)
    refine ⟨a, ?_⟩
    cases q : h.get? (He.cT (frTM h.get?) p).2 with
    | none =>
      rw [q] at b
      cases b
    | some o =>
      rw [q] at b
      exact ⟨o, rfl, b⟩
  refine ⟨e1, fun p hp => (at_ p hp).1, fun p hp => ?_, fun p hp => ?_⟩
  · obtain ⟨_, o, q, z⟩ := at_ p hp
    exact He.frT_none q z
  · obtain ⟨_, o, q, z⟩ := at_ p hp
    rw [q, He.emptyTab_eq z]
def hookTM (F : PySem.W.Frag → Bool) (fn : List He.FnD) (tf : List He.Defn) : PySem.W.Hook where
  α := He.Al × Bool
  obs := fun s => obsTM F fn tf s.heap.get?
  val := fun _ => (He.valE fn, true)
  says := fun _ h => ∃ K : PySem.W.Frag, K.In h ∧ SaysTM F fn tf h K
  of := fun _ _ e => ⟨_, He.frT_in, saysTM_of e⟩
  keeps := fun _ _ _ ⟨K, hK, c⟩ k => ⟨K, PySem.W.Frag.In.keeps hK k, ⟨c.core, c.hd, c.out, fun p hp => k _ _ (c.empty p hp)⟩⟩
theorem obsTM_eq {F : PySem.W.Frag → Bool} {fn : List He.FnD} {tf : List He.Defn} {g : Addr → Option Obj} {s : Shared}
    (h : ∀ a, g a = s.heap.get? a) : obsTM F fn tf g = (hookTM F fn tf).obs s := by
  have e : g = s.heap.get? := funext h
  rw [e] <;> rfl
end Tc
namespace Tc
open PySem PySem.Spec PyProof.Rows L2
section
variable {P : Program} {w : World} {K : PySem.W.Frag} {mg mb : Str → Option Value} {CX : CXT}
  {k : Nat} {fa a : Addr} {cs : List (Addr × Addr)} {fd : FuncData} {x : Str} {sp : Sp} {s₁ : Shared} {vs : List Value} {ns : List Int}
/-- an empty table of code objects -/
abbrev tab0 : Obj := { cls := .none, data := .fields #[] }
abbrev scriptO (vs : List Value) : Obj := { cls := .type "list", data := .seq vs.toArray }
/-- the law's call, from a heap in which the tables and at most the script are tracked -/
theorem callT_from (KX : K.In s₁.heap) (hns : s₁.heap.Ns mainGlobals mg) (hb : s₁.heap.Ns builtinsNs mb)
    (hbb : ∀ y : Str, y ≠ "__name__" → mb y = bootBuiltins y) (hlim : s₁.heap.NoLimit) (hg : s₁.gens = #[])
    (hT : ∀ p ∈ cs, s₁.heap.get? p.2 = some tab0) (nT : ∀ p ∈ cs, K.lookup p.2 = none) (C : ∀ p ∈ cs, PySem.W.CodeHd s₁.heap p.1 p.2)
    (hbm : ∃ (bm : Addr) (ob : Obj), mg "__builtins__" = some (.ref bm) ∧ bm ≠ builtinsNs ∧ s₁.heap.get? bm = some ob ∧ ob.cls = .type "module" ∧ ob.dict = some builtinsNs ∧ ob.data = .plain)
    (ha : s₁.heap.get? a = some (scriptO vs)) (hr : Room k callerA)
    (F : ∀ base : Heap, K.In base → base.Ns mainGlobals mg → (∀ p ∈ cs, LamX.TabB base mg p.1 p.2) → FnG P w K mg base CX k fa fd [x] sp)
    (hbind : ∀ (s : Shared) (u : Value), BindsTo s fd ⟨[u], []⟩ [(x, u)])
    (hCX : ∀ H e s', CX [] H s₁ (fun _ _ _ => False) e s' → False)
    (H : Hp) (hH : ∀ p ∈ cs, H p.2 = some (.tbl #[])) (hO : ∀ b, H b = none ∨ b ∈ cs.map (·.2) ∨ ∃ o xs, H b = some (.frz o (.lst xs)))
    (hsp : sp [.ref a] H (fun v _ => v = .bl true) fun _ _ _ => False)
    (hok : HOk P w H s₁.heap) (hA : ∀ b, H b ≠ none → b = a ∨ b ∈ cs.map (·.2)) (hK : H a ≠ none → K.lookup a = none) :
    codeAny (model P w) callerA (.call (.ref fa) ⟨[.ref a], []⟩) (Behind s₁) s₁ := by
  have tabAt : ∀ b, b ∈ cs.map (·.2) → s₁.heap.get? b = some tab0 := by
    intro b hb
    obtain ⟨p, hp, rfl⟩ := List.mem_map.mp hb
    exact hT p hp
  have hid : ∀ {b : Addr} {o : Obj}, s₁.heap.get? b = some o → H b = none → (hidT s₁.heap H).get? b = some o := fun e n => hidT_get e n
  -- what is neither the script nor a table is not tracked
  have free : ∀ {b : Addr} {o : Obj}, s₁.heap.get? b = some o → (∀ vs n, o.data ≠ .seq vs n) → o.data ≠ .fields #[] → H b = none := by
    intro b o e h1 h2
    cases q : H b with
    | none => rfl
    | some u =>
      rcases hA b (by rw [q]; exact Option.some_ne_none u) with z | z
      · rw [z, ha] at e
        cases e
        exact (h1 _ _ rfl).elim
      · rw [tabAt b z] at e
        cases e
        exact (h2 rfl).elim
  have freeD : ∀ {b : Addr} {o : Obj} {es : Array DictEntry} {ep : Nat}, s₁.heap.get? b = some o → o.data = .dict es ep → H b = none := fun e d =>
    free e (fun vs n z => by rw [d] at z; cases z) (fun z => by rw [d] at z; cases z)
  have names : ∀ {b : Addr} {m : Str → Option Value}, s₁.heap.Ns b m → (hidT s₁.heap H).Ns b m := by
    rintro b m ⟨o, es, ep, e, d, r⟩
    exact ⟨o, es, ep, hid e (freeD e d), d, r⟩
  have written : K.In (hidT s₁.heap H) := by
    intro b o e
    refine hid (KX b o e) ?_
    cases q : H b with
    | none => rfl
    | some u =>
      rcases hA b (by rw [q]; exact Option.some_ne_none u) with z | z
      · rw [z] at e q
        rw [hK (by rw [q]; exact Option.some_ne_none u)] at e
        cases e
      · obtain ⟨p, hp, rfl⟩ := List.mem_map.mp z
        rw [nT p hp] at e
        cases e
  have TB : ∀ p ∈ cs, LamX.TabB (hidT s₁.heap H) mg p.1 p.2 := by
    intro p hp
    have here := hT p hp
    refine ⟨?_, ?_, ?_⟩
    · obtain ⟨o, us, file, tf, flags, tg, inF, text, tt, e1, r1, r2, r3, rest⟩ := C p hp
      refine ⟨o, us, file, tf, flags, tg, inF, text, tt, hid e1 (free e1 (fun vs n z => ?_) fun z => ?_), r1, r2, r3, rest⟩
      · rw [r2] at z
        cases z
      · rw [r2] at z
        cases z
        simp at r3
    · obtain ⟨bm, ob, b1, b2, b3, b4, b5, b6⟩ := hbm
      have nG : bm ≠ mainGlobals := by
        intro q
        obtain ⟨o, es, ep, e, d, _⟩ := hns
        rw [q, e] at b3
        cases b3
        rw [d] at b6
        cases b6
      have nP : bm ≠ p.2 := by
        intro q
        rw [q, here] at b3
        cases b3
        cases b6
      exact ⟨bm, ob, b1, b2, nG, nP, hid b3 (free b3 (fun vs n z => by rw [b6] at z; cases z) (fun z => by rw [b6] at z; cases z)), b4, b5, b6⟩
    · intro z
      obtain ⟨o, es, ep, e, d, _⟩ := hns
      rw [z, here] at e
      cases e
      cases d
  have e0 : Env0 P w K mg (hidT s₁.heap H) callerA [] s₁ H :=
    ⟨rfl, ⟨written, names hns, ⟨mb, names hb, hbb⟩, by obtain ⟨mc, h1, h2⟩ := hlim; exact ⟨mc, names h1, h2⟩⟩, fun b o e => of_hidT e, Nat.le_of_eq (hidT_size _ _), trivial,
      fun b h => (List.not_mem_nil (show b ∈ ([] : List Addr) from h)).elim, hok, .of_eq hg⟩
  have run := (F _ written (names hns) TB).run callerA [] s₁ H ⟨[.ref a], []⟩ [.ref a] [.ref a] _ _ hr rfl e0 (hbind s₁ (.ref a)) (.cons rfl .nil) hsp
  refine codeAny_mono run ?_
  intro r s' h
  rcases r with e | fl
  · exact (hCX H e s' h).elim
  cases fl with
  | next | brk | cont => exact False.elim h
  | ret u =>
    obtain ⟨v, H', os, bare, un, hok', rv, q⟩ := h
    have hv : v = .bl true := q
    subst hv
    have hu : u = Value.bool true := rv
    subst hu
    have old : ∀ b o, b ∉ cs.map (·.2) → s₁.heap.get? b = some o → s'.heap.get? b = some o := by
      intro b o nb e
      cases q : H b with
      | none => exact un.keep b o e q (fun z => nomatch (show b ∈ ([] : List Addr) from z)) (fun z => nomatch z)
      | some u =>
        rcases hO b with z | z | ⟨ob, xs, z⟩
        · rw [q] at z
          cases z
        · exact absurd z nb
        · have now := (hok b _ z).1
          have later := (hok' b _ (un.frzs b ob _ z)).1
          rw [e] at now
          cases now
          exact later
    have grown : ∀ p ∈ cs, ∃ more : Array Value, s'.heap.get? p.2 = some { cls := .none, data := .fields more } := by
      intro p hp
      obtain ⟨more, z⟩ := un.tbls p.2 #[] (hH p hp)
      exact ⟨_, hok' p.2 _ z⟩
    refine ⟨rfl, ⟨fun b o e => ?_, fun b o e => ?_⟩, os, bare⟩
    · by_cases hb : b ∈ cs.map (·.2)
      · obtain ⟨p, hp, rfl⟩ := List.mem_map.mp hb
        obtain ⟨more, hm⟩ := grown p hp
        rw [hT p hp] at e
        cases e
        exact .inr (.inl ⟨((C p hp).tab (hT p hp)).isCodeTable, rfl, #[], more, rfl, by rw [Array.empty_append]; exact hm⟩)
      · exact .inl (old b o hb e)
    · by_cases hb : b ∈ cs.map (·.2)
      · obtain ⟨p, hp, rfl⟩ := List.mem_map.mp hb
        obtain ⟨more, hm⟩ := grown p hp
        exact ⟨_, hm⟩
      · exact ⟨o, old b o hb e⟩
/-- the law's call -/
theorem law_callTG (KX : K.In s₁.heap) (hns : s₁.heap.Ns mainGlobals mg) (hb : s₁.heap.Ns builtinsNs mb)
    (hbb : ∀ y : Str, y ≠ "__name__" → mb y = bootBuiltins y) (hlim : s₁.heap.NoLimit) (hg : s₁.gens = #[])
    (hT : ∀ p ∈ cs, s₁.heap.get? p.2 = some tab0) (nT : ∀ p ∈ cs, K.lookup p.2 = none) (C : ∀ p ∈ cs, PySem.W.CodeHd s₁.heap p.1 p.2)
    (hbm : ∃ (bm : Addr) (ob : Obj), mg "__builtins__" = some (.ref bm) ∧ bm ≠ builtinsNs ∧ s₁.heap.get? bm = some ob ∧ ob.cls = .type "module" ∧ ob.dict = some builtinsNs ∧ ob.data = .plain)
    (ha : s₁.heap.get? a = some (scriptO vs)) (hi : IntsAre vs ns) (hl : ns.length ≤ sizeLine) (hr : Room k callerA)
    (F : ∀ base : Heap, K.In base → base.Ns mainGlobals mg → (∀ p ∈ cs, LamX.TabB base mg p.1 p.2) → FnG P w K mg base CX k fa fd [x] sp)
    (hbind : ∀ (s : Shared) (u : Value), BindsTo s fd ⟨[u], []⟩ [(x, u)])
    (hsp : ∀ H : Hp, (∀ p ∈ cs, H p.2 = some (.tbl #[])) → SqL K H a (ns.map V.int) → sp [.ref a] H (fun v _ => v = .bl true) fun _ _ _ => False)
    (hCX : ∀ H e s', CX [] H s₁ (fun _ _ _ => False) e s' → False) :
    codeAny (model P w) callerA (.call (.ref fa) ⟨[.ref a], []⟩) (Behind s₁) s₁ := by
  have rv := vals_ints hi
  have main := fun H hH hO hq => callT_from (sp := sp) KX hns hb hbb hlim hg hT nT C hbm ha hr F hbind hCX H hH hO hq
  have mem : ∀ p ∈ cs, p.2 ∈ cs.map (·.2) := fun p hp => List.mem_map.mpr ⟨p, hp, rfl⟩
  have tabAt : ∀ b, b ∈ cs.map (·.2) → s₁.heap.get? b = some tab0 := by
    intro b hb
    obtain ⟨p, hp, rfl⟩ := List.mem_map.mp hb
    exact hT p hp
  have aT : a ∉ cs.map (·.2) := by
    intro z
    have q := tabAt a z
    rw [ha] at q
    have z' : Data.seq vs.toArray _ = Data.fields #[] := congrArg Obj.data (Option.some.inj q)
    cases z'
  cases hk : K.lookup a with
  | some o =>
    have e := KX a o hk
    rw [ha] at e
    cases e
    let H : Hp := fun b => if b ∈ cs.map (·.2) then some (.tbl #[]) else none
    have on : ∀ {b : Addr}, b ∈ cs.map (·.2) → H b = some (.tbl #[]) := fun hb => if_pos hb
    have off : ∀ {b : Addr}, b ∉ cs.map (·.2) → H b = none := fun hb => if_neg hb
    refine main H (fun p hp => on (mem p hp)) (fun b => ?_) (hsp H (fun p hp => on (mem p hp)) (.inr ⟨_, vs.toArray, _, hk, rfl, rfl, rfl, ?_, by simpa using rv⟩)) (fun b u z => ?_) (fun b z => ?_) (fun z => absurd (off aT) z)
    · by_cases hb : b ∈ cs.map (·.2)
      · exact .inr (.inl hb)
      · exact .inl (off hb)
    · rw [List.size_toArray, hi.length]
      exact hl
    · by_cases hb : b ∈ cs.map (·.2)
      · rw [on hb] at z
        cases z
        exact tabAt b hb
      · rw [off hb] at z
        cases z
    · by_cases hb : b ∈ cs.map (·.2)
      · exact .inr hb
      · exact absurd (off hb) z
  | none =>
    let H : Hp := fun b => if b = a then some (.frz (scriptO vs) (.lst (ns.map V.int))) else if b ∈ cs.map (·.2) then some (.tbl #[]) else none
    have at_a : H a = some (.frz (scriptO vs) (.lst (ns.map V.int))) := if_pos rfl
    have on : ∀ {b : Addr}, b ∈ cs.map (·.2) → H b = some (.tbl #[]) := fun {b} hb => (if_neg (show ¬ b = a from fun z => aT (by rw [← z]; exact hb))).trans (if_pos hb)
    have off : ∀ {b : Addr}, b ≠ a → b ∉ cs.map (·.2) → H b = none := fun n hb => (if_neg n).trans (if_neg hb)
    refine main H (fun p hp => on (mem p hp)) (fun b => ?_) (hsp H (fun p hp => on (mem p hp)) (.inl (.inr ⟨_, at_a⟩))) (fun b u z => ?_) (fun b z => ?_) (fun _ => hk)
    · by_cases n : b = a
      · rw [n]
        exact .inr (.inr ⟨_, _, at_a⟩)
      · by_cases hb : b ∈ cs.map (·.2)
        · exact .inr (.inl hb)
        · exact .inl (off n hb)
    · by_cases n : b = a
      · subst n
        rw [at_a] at z
        cases z
        exact ⟨ha, by rw [List.length_map]; exact hl, vs, _, rv, ha⟩
      · by_cases hb : b ∈ cs.map (·.2)
        · rw [on hb] at z
          cases z
          exact tabAt b hb
        · rw [off n hb] at z
          cases z
    · by_cases n : b = a
      · exact .inl n
      · by_cases hb : b ∈ cs.map (·.2)
        · exact .inr hb
        · exact absurd (off n hb) z
end
/-- the end of a law's row, from a word about the head, with tables -/
theorem walk_endTG {l : PySem.W.OpenLaw} {n k : Nat} {q : Program} {loose : List Str} {XP : (Str → Option Value) → Heap → Prop} {YP : World → Heap → Prop} {d : DefRec} {CX : World → CXT} {x : Str}
    (hm : l.most = some n) (hs : n ≤ sizeLine) (h0 : d.params.defaults = []) (hr : Room k callerA)
    (F : ∀ (w : World) (mg : Str → Option Value) (fa : Addr) (h : Heap), YP w h → h.Ns mainGlobals mg → mg d.name = some (.ref fa) →
      ∃ (K : PySem.W.Frag) (fd : FuncData) (cs : List (Addr × Addr)) (sp : Sp), K.In h ∧ (∀ (s : Shared) (u : Value), BindsTo s fd ⟨[u], []⟩ [(x, u)]) ∧
        ((∀ p ∈ cs, h.get? p.2 = some tab0) ∧ (∀ p ∈ cs, K.lookup p.2 = none) ∧ ∀ p ∈ cs, PySem.W.CodeHd h p.1 p.2) ∧
        (∀ base : Heap, K.In base → base.Ns mainGlobals mg → (∀ p ∈ cs, LamX.TabB base mg p.1 p.2) → FnG l.prog w K mg base (CX w) k fa fd [x] sp) ∧
        ∀ (H : Hp) (a : Addr) (ns : List Int), ns.length ≤ n → (∀ p ∈ cs, H p.2 = some (.tbl #[])) → SqL K H a (ns.map V.int) → sp [.ref a] H (fun v _ => v = .bl true) fun _ _ _ => False)
    (hX : ∀ (w : World) (H : Hp) (s : Shared) (e : Value) (s' : Shared), ¬ CX w [] H s (fun _ _ _ => False) e s') :
    PySem.W.WalkO q loose XP YP l.row.toRowW d [] (fun f vs => PySem.call f vs) := by
  refine Att.attach_callB hm h0 ?_
  intro w s₀ s₁ mg mb fa o pm cd doc a vs ns G Y ho hd hcd hmg hobj hints hlen hbits hg
  obtain ⟨K, fd, cs, sp, KX, hb, ⟨hT, nT, C⟩, hF, hsp⟩ := F w mg fa _ Y G.T.g hmg
  exact law_callTG KX G.T.g G.T.b G.T.builtins G.T.nolimit hg hT nT C G.T.bmain hobj hints (Nat.le_trans hlen hs) hr hF hb
    (fun H hH hS => hsp H a ns hlen hH hS) (fun H e s' => hX w H s₁ e s')
end Tc
/-! Texts of numbers and of stretches: written, cut, read back. -/
namespace Tc
open PySem TL
abbrev val (l : List Nat) : Nat := NumText.digitsVal l
/-- the signs of a number as it is written -/
def canB (l : List Nat) : Bool := l.all (fun c => decide (48 ≤ c) && decide (c ≤ 57)) && (match l with
  | [] => false
  | c :: r => !(c == 48) || r.isEmpty)
theorem can_dig {l : List Nat} (h : canB l = true) : NumText.AllDigits l := fun c hc => by
  have z := List.all_eq_true.mp (Bool.and_eq_true_iff.mp h).1 c hc
  obtain ⟨h1, h2⟩ := Bool.and_eq_true_iff.mp z
  exact ⟨of_decide_eq_true h1, of_decide_eq_true h2⟩
theorem chars_back : ∀ {l : List Nat}, NumText.AllDigits l → (l.map Char.ofNat).map Char.toNat = l
  | [], _ => rfl
  | c :: r, h => by
    have hc := h c (.head _)
    have e : (Char.ofNat c).toNat = c := by
      have t : ∀ d : Nat, d < 10 → (Char.ofNat (48 + d)).toNat = 48 + d := by decide
      have z := t (c - 48) (by omega)
      rw [show 48 + (c - 48) = c by omega] at z
      exact z
    rw [List.map_cons, List.map_cons, e, chars_back fun d hd => h d (.tail _ hd)]
theorem can_num {l : List Nat} (h : canB l = true) : numL (val l) = l := by
  have hd := can_dig h
  cases l with
  | nil => exact absurd (Bool.and_eq_true_iff.mp h).2 (by decide)
  | cons c r =>
    have h2 : (!(c == 48) || r.isEmpty) = true := (Bool.and_eq_true_iff.mp h).2
    have hc := hd c (.head _)
    have z := NumText.toDigits_digitsVal r.length (c :: r) rfl hd (by
      rcases Bool.or_eq_true_iff.mp h2 with z | z
      · have : ¬ c = 48 := by simpa using z
        exact .inr ⟨c, r, rfl, by omega⟩
      · have : r = [] := by simpa using z
        exact .inl (by rw [this] <;> rfl))
    show (Nat.toDigits 10 (NumText.digitsVal (c :: r))).map Char.toNat = _
    rw [z]
    exact chars_back hd
theorem num_head : ∀ n : Nat, ∀ r, numL n = 48 :: r → r = [] := by
  intro n
  induction n using Nat.strongRecOn with
  | _ n ih =>
    intro r e
    by_cases h : n < 10
    · rw [numL_lt h] at e
      exact (List.cons.inj e).2.symm
    · rw [numL_step (by omega)] at e
      cases q : numL (n / 10) with
      | nil => exact absurd q (numL_ne _)
      | cons c r2 =>
        rw [q] at e
        have ec : c = 48 := (List.cons.inj e).1
        subst ec
        have e2 := ih (n / 10) (by omega) r2 q
        subst e2
        have v := numL_val (n / 10)
        rw [q] at v
        have v0 : NumText.digitsVal [48] = 0 := by decide
        rw [v0] at v
        omega
theorem num_can (n : Nat) : canB (numL n) = true := by
  refine Bool.and_eq_true_iff.mpr ⟨List.all_eq_true.mpr fun c hc => ?_, ?_⟩
  · obtain ⟨h1, h2⟩ := numL_digits n c hc
    rw [decide_eq_true h1, decide_eq_true h2] <;> rfl
  · cases q : numL n with
    | nil => exact absurd q (numL_ne _)
    | cons c r =>
      show (!(c == 48) || r.isEmpty) = true
      by_cases e : c = 48
      · subst e
        rw [num_head n r q]
        rfl
      · have : (c == 48) = false := by simpa using e
        rw [this] <;> rfl
/-! ### cut at the dashes -/
theorem pre_dash (c : Nat) (r : List Nat) : pre [45] (c :: r) = (c == 45) := by
  show ((c :: r).take 1 == [45]) = _
  simp
theorem spl_free : ∀ (l acc : List Nat), 45 ∉ acc → ∀ p ∈ spl [45] 0 acc l, 45 ∉ p
  | [], acc, h, p, hp => by
    rw [spl_nil] at hp
    rw [List.mem_singleton.mp hp]
    exact h
  | c :: r, acc, h, p, hp => by
    by_cases e : c = 45
    · rw [spl_hit (by rw [pre_dash, e] <;> rfl)] at hp
      rcases List.mem_cons.mp hp with z | z
      · rw [z]
        exact h
      · exact spl_free r [] (by simp) p z
    · rw [spl_miss (by rw [pre_dash]; simpa using e)] at hp
      refine spl_free r (acc ++ [c]) (fun z => ?_) p hp
      rcases List.mem_append.mp z with z | z
      · exact h z
      · exact e (List.mem_singleton.mp z).symm
theorem spl_ne : ∀ (l acc : List Nat), spl [45] 0 acc l ≠ []
  | [], acc => by rw [spl_nil]; simp
  | c :: r, acc => by
    by_cases e : c = 45
    · rw [spl_hit (by rw [pre_dash, e] <;> rfl)]
      simp
    · rw [spl_miss (by rw [pre_dash]; simpa using e)]
      exact spl_ne r _
theorem join_cons {S p : List Nat} {ps : List (List Nat)} (h : ps ≠ []) : joinL S (p :: ps) = p ++ (S ++ joinL S ps) := by
  cases ps with
  | nil => exact absurd rfl h
  | cons q r => rfl
theorem spl_back : ∀ (l acc : List Nat), joinL [45] (spl [45] 0 acc l) = acc ++ l
  | [], acc => by
    rw [spl_nil, List.append_nil]
    rfl
  | c :: r, acc => by
    by_cases e : c = 45
    · subst e
      rw [spl_hit (by rw [pre_dash] <;> rfl)]
      show joinL [45] (acc :: spl [45] 0 [] r) = acc ++ 45 :: r
      rw [join_cons (spl_ne _ _), spl_back r []]
      rfl
    · rw [spl_miss (by rw [pre_dash]; simpa using e), spl_back r (acc ++ [c]), List.append_assoc]
      rfl
/-- a stretch's signs -/
def spanL (a b : Nat) : List Nat := if a = b then numL a else numL a ++ (45 :: numL b)
/-- as the law reads the parts -/
def toldP : List (List Nat) → Option (Nat × Nat)
  | [p] => if canB p = true ∧ val p ≤ 4000 then some (val p, val p) else none
  | [p, q] => if canB p = true ∧ canB q = true ∧ val p < val q ∧ val q ≤ 4000 then some (val p, val q) else none
  | _ => none
/-- as the program does: its first part, its last one, and the text itself -/
def readP (p q l : List Nat) : Option (Nat × Nat) := if canB p = true ∧ canB q = true ∧ val p ≤ val q ∧ val q ≤ 4000 ∧ spanL (val p) (val q) = l then some (val p, val q) else none
theorem spl_span (a b : Nat) : spl [45] 0 [] (spanL a b) = if a = b then [numL a] else [numL a, numL b] := by
  unfold spanL
  have fr : ∀ n, 45 ∉ numL n := fun n => numL_free (.inl (by decide))
  by_cases e : a = b
  · rw [if_pos e, if_pos e]
    exact spl_join (s := 45) (S := []) (parts := [numL a]) (by simp) (by simpa using fr a)
  · rw [if_neg e, if_neg e]
    refine spl_join (s := 45) (S := []) (parts := [numL a, numL b]) (by simp) fun p hp => ?_
    rcases List.mem_cons.mp hp with z | z
    · rw [z]; exact fr a
    · rw [List.mem_singleton.mp z]; exact fr b
/-- both read the same -/
theorem read_told (l : List Nat) : ∀ ps, spl [45] 0 [] l = ps → readP (ps.headD []) (ps.getLastD []) l = toldP ps := by
  intro ps e
  have back := spl_back l []
  rw [e, List.nil_append] at back
  have fr := spl_free l [] (by simp)
  rw [e] at fr
  -- what the program takes is a stretch's text
  have cut : ∀ {p q : List Nat}, spanL (val p) (val q) = l → ps = if val p = val q then [numL (val p)] else [numL (val p), numL (val q)] := fun h => by
    rw [← e, ← h, spl_span]
  match ps with
  | [] => exact absurd e (spl_ne _ _)
  | [p] =>
    have hl : p = l := back
    show (if canB p = true ∧ canB p = true ∧ val p ≤ val p ∧ val p ≤ 4000 ∧ spanL (val p) (val p) = l then some (val p, val p) else none) = (if canB p = true ∧ val p ≤ 4000 then some (val p, val p) else none)
    by_cases h : canB p = true ∧ val p ≤ 4000
    · have key : spanL (val p) (val p) = l := by
        unfold spanL
        rw [if_pos rfl, can_num h.1]
        exact hl
      rw [if_pos h, if_pos ⟨h.1, h.1, Nat.le_refl _, h.2, key⟩]
    · rw [if_neg h, if_neg fun z => h ⟨z.1, z.2.2.2.1⟩]
  | [p, q] =>
    have hl : p ++ ([45] ++ q) = l := back
    show (if canB p = true ∧ canB q = true ∧ val p ≤ val q ∧ val q ≤ 4000 ∧ spanL (val p) (val q) = l then some (val p, val q) else none) = (if canB p = true ∧ canB q = true ∧ val p < val q ∧ val q ≤ 4000 then some (val p, val q) else none)
    by_cases h : canB p = true ∧ canB q = true ∧ val p < val q ∧ val q ≤ 4000
    · have key : spanL (val p) (val q) = l := by
        unfold spanL
        rw [if_neg (Nat.ne_of_lt h.2.2.1), can_num h.1, can_num h.2.1]
        exact hl
      rw [if_pos h, if_pos ⟨h.1, h.2.1, Nat.le_of_lt h.2.2.1, h.2.2.2, key⟩]
    · rw [if_neg h, if_neg fun z => h ⟨z.1, z.2.1, ?_, z.2.2.2.1⟩]
      have c := cut z.2.2.2.2
      by_cases e2 : val p = val q
      · rw [if_pos e2] at c
        exact absurd (congrArg List.length c) (by simp)
      · have := z.2.2.1
        omega
  | p :: q :: r :: s =>
    show readP p _ l = none
    unfold readP
    rw [if_neg fun z => ?_]
    have c := cut z.2.2.2.2
    by_cases e2 : val p = val ((p :: q :: r :: s).getLastD [])
    · rw [if_pos e2] at c
      exact absurd (congrArg List.length c) (by simp)
    · rw [if_neg e2] at c
      exact absurd (congrArg List.length c) (by simp)
end Tc
/-! Data that repr shows, told by what bounds them. -/
namespace Tc
open PySem PySem.Spec PyProof.Rows L2
structure Fine (d : PyData) (n k : Nat) : Prop where
  lay : d.canLay0 = true
  sh : d.showable = true
  short : d.intsShort 13 = true
  wt : d.weight ≤ n
  dp : d.depth ≤ k
structure FineAll (ds : List PyData) (n k : Nat) : Prop where
  lay : PyData.canLayAll0 ds = true
  sh : PyData.showableAll ds = true
  short : PyData.intsShortAll 13 ds = true
  wt : PyData.weightAll ds ≤ n
  dp : PyData.depthAll ds ≤ k
theorem Fine.good {d : PyData} {n k : Nat} (f : Fine d n k) (hn : n ≤ 1000000) (hk : k ≤ 60) : Good d := by
  refine ⟨f.sh, Nat.le_trans f.dp (by omega), ?_⟩
  have l : PyData.layable0 d = true := by
    unfold PyData.layable0
    have h1 : decide (PyData.depth d ≤ 64) = true := decide_eq_true (Nat.le_trans f.dp (by omega))
    have h2 : decide (PyData.weight d ≤ 2 ^ 20) = true := decide_eq_true (Nat.le_trans f.wt (by omega))
    rw [f.lay, h1, h2]
    rfl
  exact Nat.le_trans (shown_le13 l f.short) (by decide)
theorem Fine.mono {d : PyData} {n k m l : Nat} (f : Fine d n k) (h1 : n ≤ m) (h2 : k ≤ l) : Fine d m l := ⟨f.lay, f.sh, f.short, Nat.le_trans f.wt h1, Nat.le_trans f.dp h2⟩
theorem Fine.non : Fine .none 0 0 := ⟨rfl, rfl, rfl, Nat.le_refl 0, Nat.le_refl 0⟩
theorem Fine.bl (b : Bool) : Fine (.bool b) 0 0 := ⟨rfl, rfl, rfl, Nat.le_refl 0, Nat.le_refl 0⟩
theorem Fine.str {x : Str} (h : x.cps.all (· < 0x110000) = true) : Fine (.str x) x.length 0 := ⟨h, rfl, rfl, Nat.le_refl _, Nat.le_refl 0⟩
theorem Fine.int {i : Int} (h0 : -1 ≤ i) (h1 : i ≤ 100000) : Fine (.int i) 18 0 := by
  have hb : i.natAbs < 2 ^ 17 := by omega
  have lg : i.natAbs.log2 < 17 := by
    by_cases e : i.natAbs = 0
    · rw [e]
      decide
    · exact (Nat.log2_lt e).mpr hb
  refine ⟨rfl, decide_eq_true (by omega), ?_, ?_, Nat.le_refl 0⟩
  · refine decide_eq_true ?_
    show (Str.ofString (toString i)).length ≤ 13
    by_cases z : i = -1
    · rw [z]
      decide
    · exact Nat.le_trans (PyProof.Rows.toString_length_le (by omega) (k := 6) (by decide) (by omega)) (by decide)
  · show (if i == 0 then 0 else i.natAbs.log2 + 1) ≤ 18
    split <;> omega
theorem FineAll.nil {k : Nat} : FineAll [] 0 k := ⟨rfl, rfl, rfl, Nat.le_refl 0, Nat.zero_le k⟩
theorem FineAll.cons {d : PyData} {ds : List PyData} {n m k l : Nat} (f : Fine d n l) (g : FineAll ds m k) (h : l ≤ k) : FineAll (d :: ds) (n + 1 + m) k := by
  refine ⟨?_, ?_, ?_, ?_, ?_⟩
  · show (d.canLay0 && PyData.canLayAll0 ds) = true
    rw [f.lay, g.lay] <;> rfl
  · show (d.showable && PyData.showableAll ds) = true
    rw [f.sh, g.sh] <;> rfl
  · show (d.intsShort 13 && PyData.intsShortAll 13 ds) = true
    rw [f.short, g.short] <;> rfl
  · show d.weight + 1 + PyData.weightAll ds ≤ _
    have := f.wt
    have := g.wt
    omega
  · show max d.depth (PyData.depthAll ds) ≤ k
    have := f.dp
    have := g.dp
    omega
theorem Fine.lst {ds : List PyData} {n k : Nat} (f : FineAll ds n k) : Fine (.list ds) n (k + 1) := ⟨f.lay, f.sh, f.short, f.wt, Nat.succ_le_succ f.dp⟩
theorem Fine.tup {ds : List PyData} {n k : Nat} (f : FineAll ds n k) : Fine (.tuple ds) n (k + 1) := ⟨f.lay, f.sh, f.short, f.wt, Nat.succ_le_succ f.dp⟩
end Tc
/-! list of a text. -/
namespace Tc
open PySem PySem.Spec PyProof.Rows L2 TL
/-- list(z), z a text -/
def rListT : List V → Hp → VK → Prop := fun xs H Q => ∃ z : Str, xs = [.str z] ∧ z.length ≤ sizeLine ∧ ∀ p, H p = none → Q (.ref p) (upd H p (.lst ((tl z).map fun c => V.str ⟨#[c]⟩)))
theorem vals_of : ∀ {l : List Nat} {us : List Value}, us.length = l.length → (∀ (i c : Nat) (u : Value), l[i]? = some c → us[i]? = some u → ∃ t : Tok, u = Value.str ⟨#[c]⟩ t) → Vals (l.map fun c => V.str ⟨#[c]⟩) us
  | [], [], _, _ => .nil
  | c :: l, u :: us, h, k => .cons (k 0 c u rfl rfl) (vals_of (Nat.succ.inj h) fun i d v h1 h2 => k (i + 1) d v h1 h2)
theorem call_listT {X : Cx} (hc : X.calm = true) : CallR X (.type "list") rListT := by
  intro pins s σ H xs us Q I r h
  obtain ⟨z, rfl, hz, q⟩ := h
  obtain ⟨u, rfl, rx⟩ := vals1 r
  obtain ⟨t, rfl⟩ := rx
  refine call_list_str (I.ok.hd hc) z t (fun h' tk acc' c' kp e it => ?_) hz
  have hn : H s.heap.objs.size = none := I.hok.fresh (Nat.le_refl _)
  refine ⟨.ref s.heap.objs.size, _, I.laid (t' := tk) kp (Nat.le_refl _) (show ObjOk X.prog X.w _ h' _ (.lst ((tl z).map fun c => V.str ⟨#[c]⟩)) from ⟨?_, acc'.toList, c', ?_, e⟩), rfl, q _ hn⟩
  · rw [List.length_map, ← len_tl]
    exact hz
  · obtain ⟨i1, i2⟩ := it
    refine vals_of (by rw [Array.length_toList, i1]; rfl) fun i c v h1 h2 => ?_
    obtain ⟨d, t2, e1, e2⟩ := i2 i v (by rw [← h2]; exact Array.getElem?_toList.symm)
    have e3 : (tl z)[i]? = some d := by rw [← e1]; exact Array.getElem?_toList
    rw [h1] at e3
    cases e3
    exact ⟨t2, e2⟩
end Tc
/-! A def whose code object is known, for those that make lambdas. -/
namespace Tc
open PySem PySem.Spec PyProof.Rows L2
section
variable {P : Program} {w : World} {K : PySem.W.Frag} {mg : Str → Option Value} {base : Heap}
/-- as Fun.okG, its code object known -/
theorem Fun.okGC {CX : CXT} {x qual : Str} {st : Stmt} {f : Addr} {fd : FuncData} {N ps : List Str}
    {k : Nat} {sp : Sp} {c : Addr} (F : Fun K x qual st f fd) (hcode : fd.code = .ref c) (S : FnScope N ps (defScope st))
    (len : ∀ vs H Q E, sp vs H Q E → vs.length = ps.length)
    (hbody : ∀ (A : Around) (outer : List Env) (s : Shared) (H : Hp) (vs : List V)
      (Q : VK) (E : XK), Room k (A.deeper (envOfC qual (defScope st) s.heap.objs.size f (.ref c))) →
      (A.deeper (envOfC qual (defScope st) s.heap.objs.size f (.ref c))).guards = some [] →
      sp vs H Q E →
      ∃ t, PSs (cxOf CX P w K mg base N qual (defScope st) f (.ref c) A outer s H E) (defBody st) t ∧
        t { nx := fun _ H' => Q .non H', rt := Q } (start N vs) H) :
    FnG P w K mg base CX (k + 1) f fd ps sp := by
  obtain ⟨oc, od, kV, doc, pm, an, cdv, ct, osl, rfl, lk, hcd⟩ := F.ex
  have ec : cdv = .ref c := hcode
  subst ec
  refine ⟨len, ?_⟩
  intro A outer s H args us vs Q E hr hgd e0 hb r hsp
  have vl := len _ _ _ _ hsp
  have kin : K.In s.heap := e0.mod.kin.keeps (fun b o e => (e0.bs b o e).1)
  have nlim : s.heap.NoLimit := e0.mod.nolimit.keeps (fun b o e => (e0.bs b o e).1)
  have kinds : ∀ y ∈ ps.zip us, (defScope st).names.lookup y.1 = some .local ∨
      ((defScope st).names.lookup y.1 = some .cell ∧
        ((cellsFrom (s.heap.objs.size + 1) (defScope st).names []).lookup y.1).isSome = true) := by
    rintro ⟨n, v⟩ hy
    cases S.par n (List.of_mem_zip hy).1 with
    | inl q => exact .inl q
    | inr q => exact .inr ⟨q, PySem.W.cellsFrom_some _ _ _ (.inl q)⟩
  refine codeAny_call_function hr.depth (kin _ _ lk) rfl S.co S.gen rfl
    (PySem.W.codeRec_of kin hcd) (hb _ _ _ _ ?_)
  refine wpAny_newFunctionEnv_cells S.kind kinds (fun env he s1 x => ?_)
  subst he
  refine ⟨nlim.keeps x.toInCall.keep, codeAny_func ?_⟩
  obtain ⟨t, ht, hq⟩ := hbody A outer s H vs Q E (hr.deeper _) hgd hsp
  have I := inv_start (CX := CX) (P := P) (w := w) (mg := mg) (base := base) (E := E) S hr.hd e0 vl r x
  refine wpAny_mono (ht.run [] s1 (start N vs) H _ I hq) (fun fl s' hs => ?_) (fun e s' hs => hs)
  have close : ∀ {σ' : L2.St} {H' : Hp} {v : V} {u : Value},
      Inv (cxOf CX P w K mg base N qual (defScope st) f (.ref c) A outer s H E) [] σ' H' s' →
      RelV v u → Q v H' → CE outer P w H s Q u s' := by
    intro σ' H' v u J rv q
    exact ⟨v, H', J.os, J.bare, J.base, J.hok, rv, q⟩
  cases fl with
  | ret u => obtain ⟨v, σ', H', J, rv, q⟩ := hs; exact close J rv q
  | next => obtain ⟨σ', H', J, q⟩ := hs; exact close (v := V.non) (u := Value.none) J rfl q
  | brk => obtain ⟨_, _, _, q⟩ := hs; exact False.elim q
  | cont => obtain ⟨_, _, _, q⟩ := hs; exact False.elim q
end
end Tc
/-! Data and a list that changes. -/
namespace Tc
open PySem PySem.Spec PyProof.Rows L2
mutual
/-- data stay where only an object changes whose own data are deeper -/
theorem Dv.past {H H' : Hp} {g : Addr} {N : Nat} (hg : ∀ d, Dv H (.ref g) d → N < d.depth) (k : ∀ b o, H b = some o → b ≠ g → H' b = some o) : ∀ {v : V} {d : PyData}, Dv H v d → d.depth ≤ N → Dv H' v d
  | _, _, .non, _ => .non
  | _, _, .bl b, _ => .bl b
  | _, _, .int i, _ => .int i
  | _, _, .str x, _ => .str x
  | _, _, .lst (a := a) (ds := ds) h r, hd => by
    have n : a ≠ g := fun z => by
      have q := hg _ (by rw [← z]; exact .lst h r)
      omega
    have hd' : PyData.depthAll ds ≤ N := by
      have : PyData.depthAll ds + 1 ≤ N := hd
      omega
    exact .lst (h.elim (fun z => .inl (k _ _ z n)) fun ⟨o, z⟩ => .inr ⟨o, k _ _ z n⟩) (DvAll.past hg k r hd')
  | _, _, .tup (a := a) (ds := ds) h r, hd => by
    have n : a ≠ g := fun z => by
      have q := hg _ (by rw [← z]; exact .tup h r)
      omega
    have hd' : PyData.depthAll ds ≤ N := by
      have : PyData.depthAll ds + 1 ≤ N := hd
      omega
    exact .tup (h.elim (fun z => .inl (k _ _ z n)) fun ⟨o, z⟩ => .inr ⟨o, k _ _ z n⟩) (DvAll.past hg k r hd')
  | _, _, .dct (a := a) (ds := ds) h r, hd => by
    have n : a ≠ g := fun z => by
      have q := hg _ (by rw [← z]; exact .dct h r)
      omega
    have hd' : PyData.depthKv ds ≤ N := by
      have : PyData.depthKv ds + 1 ≤ N := hd
      omega
    exact .dct (h.elim (fun z => .inl (k _ _ z n)) fun ⟨o, z⟩ => .inr ⟨o, k _ _ z n⟩) (DvKv.past hg k r hd')
theorem DvAll.past {H H' : Hp} {g : Addr} {N : Nat} (hg : ∀ d, Dv H (.ref g) d → N < d.depth) (k : ∀ b o, H b = some o → b ≠ g → H' b = some o) : ∀ {vs : List V} {ds : List PyData}, DvAll H vs ds → PyData.depthAll ds ≤ N → DvAll H' vs ds
  | _, _, .nil, _ => .nil
  | _, _, .cons (d := d) (ds := ds) a b, hd => by
    have hd : max d.depth (PyData.depthAll ds) ≤ N := hd
    exact .cons (Dv.past hg k a (by omega)) (DvAll.past hg k b (by omega))
theorem DvKv.past {H H' : Hp} {g : Addr} {N : Nat} (hg : ∀ d, Dv H (.ref g) d → N < d.depth) (k : ∀ b o, H b = some o → b ≠ g → H' b = some o) : ∀ {kvs : List (Key × V)} {ds : List (PyData × PyData)}, DvKv H kvs ds → PyData.depthKv ds ≤ N → DvKv H' kvs ds
  | _, _, .nil, _ => .nil
  | _, _, .cons (k := kk) (d := d) (ds := ds) a b, hd => by
    have hd : max (max (kD kk).depth d.depth) (PyData.depthKv ds) ≤ N := hd
    exact .cons (Dv.past hg k a (by omega)) (DvKv.past hg k b (by omega))
end
theorem rd_one {H : Hp} {a : Addr} {u w : HO} (h : Rd H a u) (g : Rd H a w) (hu : ∀ o x, u ≠ .frz o x := by exact fun _ _ z => nomatch z) (hw : ∀ o x, w ≠ .frz o x := by exact fun _ _ z => nomatch z) : u = w := by
  rcases h with h | ⟨o, h⟩ <;> rcases g with g | ⟨o2, g⟩ <;> rw [h] at g <;> have e := Option.some.inj g
  · exact e
  · exact absurd e (hu _ _)
  · exact absurd e.symm (hw _ _)
  · cases e
    rfl
mutual
/-- a value is of one data alone -/
theorem Dv.one {H : Hp} : ∀ {v : V} {d e : PyData}, Dv H v d → Dv H v e → d = e
  | _, _, _, .non, h => by cases h; rfl
  | _, _, _, .bl b, h => by cases h; rfl
  | _, _, _, .int i, h => by cases h; rfl
  | _, _, _, .str x, h => by cases h; rfl
  | _, _, _, .lst h r, q => by
    cases q with
    | lst h2 r2 =>
      have e : HO.lst _ = HO.lst _ := rd_one h h2
      cases e
      rw [DvAll.one r r2]
    | tup h2 r2 => exact nomatch (show HO.lst _ = HO.tup _ from rd_one h h2)
    | dct h2 r2 => exact nomatch (show HO.lst _ = HO.dK _ from rd_one h h2)
  | _, _, _, .tup h r, q => by
    cases q with
    | tup h2 r2 =>
      have e : HO.tup _ = HO.tup _ := rd_one h h2
      cases e
      rw [DvAll.one r r2]
    | lst h2 r2 => exact nomatch (show HO.tup _ = HO.lst _ from rd_one h h2)
    | dct h2 r2 => exact nomatch (show HO.tup _ = HO.dK _ from rd_one h h2)
  | _, _, _, .dct h r, q => by
    cases q with
    | dct h2 r2 =>
      have e : HO.dK _ = HO.dK _ := rd_one h h2
      cases e
      rw [DvKv.one r r2]
    | tup h2 r2 => exact nomatch (show HO.dK _ = HO.tup _ from rd_one h h2)
    | lst h2 r2 => exact nomatch (show HO.dK _ = HO.lst _ from rd_one h h2)
theorem DvAll.one {H : Hp} : ∀ {vs : List V} {ds es : List PyData}, DvAll H vs ds → DvAll H vs es → ds = es
  | _, _, _, .nil, h => by cases h; rfl
  | _, _, _, .cons a b, h => by
    cases h with
    | cons a2 b2 => rw [Dv.one a a2, DvAll.one b b2]
theorem DvKv.one {H : Hp} : ∀ {kvs : List (Key × V)} {ds es : List (PyData × PyData)}, DvKv H kvs ds → DvKv H kvs es → ds = es
  | _, _, _, .nil, h => by cases h; rfl
  | _, _, _, .cons a b, h => by
    cases h with
    | cons a2 b2 => rw [Dv.one a a2, DvKv.one b b2]
end
end Tc
/-! Data and tables. -/
namespace Tc
open PySem PySem.Spec PyProof.Rows L2
open LamX (Tabs TabS ExtN CodeO)
mutual
theorem Dv.ext {H H' : Hp} (s : ExtN H H') : ∀ {v : V} {d : PyData}, Dv H v d → Dv H' v d
  | _, _, .non => .non
  | _, _, .bl b => .bl b
  | _, _, .int i => .int i
  | _, _, .str x => .str x
  | _, _, .lst h a => .lst (h.elim (fun z => .inl (s _ _ z fun _ e => nomatch e)) fun ⟨o, z⟩ => .inr ⟨o, s _ _ z fun _ e => nomatch e⟩) (DvAll.ext s a)
  | _, _, .tup h a => .tup (h.elim (fun z => .inl (s _ _ z fun _ e => nomatch e)) fun ⟨o, z⟩ => .inr ⟨o, s _ _ z fun _ e => nomatch e⟩) (DvAll.ext s a)
  | _, _, .dct h a => .dct (h.elim (fun z => .inl (s _ _ z fun _ e => nomatch e)) fun ⟨o, z⟩ => .inr ⟨o, s _ _ z fun _ e => nomatch e⟩) (DvKv.ext s a)
theorem DvAll.ext {H H' : Hp} (s : ExtN H H') : ∀ {vs : List V} {ds : List PyData}, DvAll H vs ds → DvAll H' vs ds
  | _, _, .nil => .nil
  | _, _, .cons a b => .cons (Dv.ext s a) (DvAll.ext s b)
theorem DvKv.ext {H H' : Hp} (s : ExtN H H') : ∀ {kvs : List (Key × V)} {ds : List (PyData × PyData)}, DvKv H kvs ds → DvKv H' kvs ds
  | _, _, .nil => .nil
  | _, _, .cons a b => .cons (Dv.ext s a) (DvKv.ext s b)
end
/-- tables stay where all but a list stays -/
theorem tabs_keep {T : List (Addr × Str)} {H H' : Hp} {a : Addr} {l : List V} (h : Tabs T H) (ha : H a = some (.lst l)) (k : ∀ b o, H b = some o → b ≠ a → H' b = some o) : Tabs T H' := by
  intro p hp
  obtain ⟨ps, h1, h2, h3⟩ := h p hp
  refine ⟨ps, k _ _ h1 (fun z => ?_), h2, fun pos cv hc => ?_⟩
  · rw [z, ha] at h1
    cases h1
  · obtain ⟨c, e1, e2⟩ := h3 pos cv hc
    refine ⟨c, e1, k _ _ e2 fun z => ?_⟩
    rw [z, ha] at e2
    exact nomatch (show HO.lst l = HO.ext _ from Option.some.inj e2)
end Tc
namespace K40
open PySem PySem.Spec PyProof.Rows L2 Tc
def topS (i : Nat) : Stmt := PySem.Challenge.pw_toldcounts_k40_whole_told_means_and_spre.main.body.getD i (.Pass ⟨0, 0, 0, 0⟩)
abbrev s_is_integer : Stmt := topS 8
abbrev s_is_number : Stmt := topS 9
abbrev s_is_places : Stmt := topS 12
abbrev s_need_places : Stmt := topS 13
abbrev s_need_people : Stmt := topS 14
abbrev s_need_number : Stmt := topS 15
abbrev s_nearest : Stmt := topS 16
abbrev s_mean_of : Stmt := topS 17
abbrev s_spread_of : Stmt := topS 18
abbrev s_told_mean : Stmt := topS 19
abbrev s_told_spread : Stmt := topS 20
abbrev s_pail : Stmt := topS 22
abbrev s_sup : Stmt := topS 23
abbrev s_any : Stmt := topS 24
abbrev s_is_next : Stmt := topS 25
abbrev s_natural : Stmt := topS 26
abbrev s_whole : Stmt := topS 27
abbrev s_ended : Stmt := topS 28
abbrev s_due : Stmt := topS 29
abbrev s_refused : Stmt := topS 30
abbrev s_right : Stmt := topS 31
abbrev s_law : Stmt := topS 32
def ex1 (x f : Str) (k : Kin) (n : Nat) : Str × Str × Kin × Nat := (x, f, k, n)
def al1 (x : Str) (k : Kin) : Str × Kin := (x, k)
def pl1 (x : Str) (n : Nat) : Str × Nat := (x, n)
def exs : List (Str × Str × Kin × Nat) := [ex1 "InvalidNumber" "given" .v 2, ex1 "InvalidPeople" "given" .v 3, ex1 "InvalidPlaces" "given" .v 4]
def alls : List (Str × Kin) := [al1 "InvalidNumber" .v, al1 "InvalidPeople" .v, al1 "InvalidPlaces" .v, al1 "WrongValue" .v, al1 "WrongName" .l, al1 "NotPossible" .a]
def fplaces : List (Str × Nat) := [pl1 "is_integer" 8, pl1 "is_number" 9, pl1 "is_places" 12, pl1 "_need_places" 13, pl1 "need_people" 14, pl1 "_need_number" 15, pl1 "nearest" 16, pl1 "mean_of" 17, pl1 "spread_of" 18, pl1 "told_mean" 19, pl1 "told_spread" 20] ++
  [pl1 "_law_pail" 22, pl1 "_law_sup" 23, pl1 "_law_any" 24, pl1 "_law_is_next" 25, pl1 "_law_natural" 26, pl1 "_law_whole" 27, pl1 "_law_ended" 28, pl1 "_law_due" 29, pl1 "_law_refused_right" 30, pl1 "_law_right" 31, pl1 "law" 32]
def funs : List Str := fplaces.map (·.1)
def frees : List Str := (["len", "int", "abs", "divmod", "range", "isinstance", "repr", "bool", "min", "max", "all", "ValueError"] : List String).map Str.ofString
def dInit (e : Str × Str × Kin × Nat) : He.FnD := ⟨(e.1, some "__init__"), "__init__", e.1 ++ ".__init__", defArgs (inClass (topS e.2.2.2) 0), defBody (inClass (topS e.2.2.2) 0), defScope (inClass (topS e.2.2.2) 0)⟩
def dFun (p : Str × Nat) : He.FnD := ⟨(p.1, none), p.1, p.1, defArgs (topS p.2), defBody (topS p.2), defScope (topS p.2)⟩
def fn : List He.FnD := fplaces.map dFun ++ exs.map dInit
def tf : List He.Defn := [("_law_refused_right", none)]
def mroB (K : PySem.W.Frag) (x : Str) (l : List Value) : Bool := (match PySem.W.clsIn K (He.ga K x) with
  | some cd => decide (cd.mro = l)
  | none => false) && decide (PySem.W.typeIn K (.ref (He.ga K x)) = some (.type "type"))
def mros (K : PySem.W.Frag) : Bool := exs.all (fun e => mroB K e.1 ([.ref (He.ga K e.1), .ref (He.ga K "WrongValue")] ++ e.2.2.1.mro)) && ([al1 "WrongValue" .v, al1 "WrongName" .l, al1 "NotPossible" .a].all (fun e => mroB K e.1 (.ref (He.ga K e.1) :: e.2.mro)) &&
  decide ((alls.map fun e => He.ga K e.1).Nodup))
def F (K : PySem.W.Frag) : Bool :=
  exs.all (fun e => exkB K e.2.2.1 e.1 e.2.1) && (alls.all (fun e => exaB K e.1 && (He.Fa.glo e.1).ok K) && (exsB K &&
  (funs.all (fun x => (He.Fa.glo x).ok K) && (frees.all (fun x => (He.Fa.free x).ok K) &&
  ((He.Fa.glo "_TIMES").ok K && (He.tupB K "_TIMES" [.int 1, .int 10, .int 100] && (mros K && (K.lookup sysModules).isSome)))))))
abbrev R : PySem.W.OpenRow := PySem.W.OpenLaw.row PySem.Challenge.rw_toldcounts_k40_whole_told_means_and_spre
abbrev hk : PySem.W.Hook := hookTM F fn tf
def ob (s : PySem.W.SharedT) : He.Al × Bool := obsTM F fn tf (HandSHeadRun.getT s)
theorem ob_eq (s : PySem.W.SharedT) : ob s = hk.obs s.abs := obsTM_eq (HandSHeadRun.getT_eq s)
def loose : List Str := alls.map (·.1) ++ ([("_TIMES" : Str)] ++ funs.dropLast)
theorem run (w : World) : HandSHeadRun.RunEq R (PySem.W.view R.prog [32]) hk ob 14000 loose w := by
  intro os
  kernel_rfl
end K40
namespace K40
open PySem PySem.Spec PyProof.Rows L2 Tc Evl
/-- built-ins that are called -/
structure Bl (mg : Str → Option Value) : Prop where
  len : mg "len" = none
  int : mg "int" = none
  abs : mg "abs" = none
  divmod : mg "divmod" = none
  range : mg "range" = none
  isinstance : mg "isinstance" = none
  repr : mg "repr" = none
  bool : mg "bool" = none
  min : mg "min" = none
  max : mg "max" = none
  all : mg "all" = none
  ve : mg "ValueError" = none
/-- a pail stands at a -/
def Pail (H : Hp) (a : Addr) : Prop := ∃ m o : Int, H a = some (.lst [.int m, .int o]) ∧ 0 ≤ m ∧ 0 ≤ o
def But (a : Addr) (H H' : Hp) : Prop := ∀ b o, H b = some o → b ≠ a → H' b = some o
theorem But.trans {a : Addr} {H H1 H2 : Hp} (x : But a H H1) (y : But a H1 H2) : But a H H2 := fun b o e n => y b o (x b o e n) n
theorem But.refl (a : Addr) (H : Hp) : But a H H := fun _ _ e _ => e
theorem But.put {a : Addr} {H H1 : Hp} {o : HO} (x : But a H H1) : But a H (upd H1 a o) := fun b u e n => by
  rw [upd_ne n]
  exact x b u e n
theorem But.same {a : Addr} {H H1 H2 : Hp} (x : But a H H1) (y : Same H1 H2) : But a H H2 := fun b u e n => y b u (x b u e n)
theorem pail_same {H H' : Hp} {a : Addr} (h : Pail H a) (s : Same H H') : Pail H' a := by
  obtain ⟨m, o, h, r⟩ := h
  exact ⟨m, o, s _ _ h, r⟩
theorem pail_some {H : Hp} {a : Addr} (h : Pail H a) : ∃ o, H a = some o := by
  obtain ⟨m, o, h, _⟩ := h
  exact ⟨_, h⟩
theorem mem_of_cut {ns : List Int} {lo hi : Option Int} {i : Nat} {y : V} (h : (cutV (ns.map V.int) lo hi)[i]? = some y) : ∃ z, y = V.int z := by
  have m : y ∈ cutV (ns.map V.int) lo hi := List.mem_of_getElem? h
  have m2 := List.mem_of_mem_drop (List.mem_of_mem_take m)
  obtain ⟨z, _, e⟩ := List.mem_map.mp m2
  exact ⟨z, e.symm⟩
theorem emod_ge {a b : Int} (h : 0 < b) : 0 ≤ a % b := Int.emod_nonneg a (by omega)
theorem div_ok {i j : Int} (h : 0 < j) (h2 : j.natAbs < 2 ^ 600) : CDivW i j := wide_div h h2 (by decide) (by decide)
theorem divp_ok {i j : Int} (h : 0 < j) (h2 : j.natAbs < 2 ^ 600) : CDivP i j := ⟨h, PyProof.noPylong_of_log2 (div_ok (i := i) h h2).2⟩
section
variable {P : Program} {w : World} {K : PySem.W.Frag} {mg : Str → Option Value} {base : Heap}
theorem sc_pail : FnScope ["_law_script", "_law_turn", "_law_mixed", "_law_cell", "_law_own"] ["_law_script", "_law_turn"] (defScope s_pail) := ⟨rfl, rfl, rfl, by decide +kernel, rfl, by decide +kernel, by decide +kernel⟩
theorem g_pail : ∀ x ∈ (["int", "len", "abs"] : List Str), (defScope s_pail).names.lookup x = some .globalImplicit := by decide +kernel
def spPail (K : PySem.W.Frag) : Sp := fun vs H Q _ => ∃ (a : Addr) (ns : List Int) (k : Nat), vs = [.ref a, .int k] ∧ k < 5 ∧ SqL K H a (ns.map V.int) ∧ ns.length ≤ 63 ∧
  ∀ (H' : Hp) (p : Addr), H p = none → Same H H' → Pail H' p → Q (.ref p) H'
theorem ok_pail {f : Addr} {fd : FuncData} (F : Fun K "_law_pail" "_law_pail" s_pail f fd) (B : Bl mg) :
    FnOk P w K mg base CX0 1 f fd ["_law_script", "_law_turn"] (spPail K) := by
  refine F.ok sc_pail (fun vs H Q E h => ?_) (fun cdv A outer s H vs Q E hr h => ?_)
  · obtain ⟨a, ns, k, rfl, _⟩ := h
    rfl
  · obtain ⟨a, ns, k, rfl, hk, hS, hlen, hQ⟩ := h
    refine ⟨_, pss_cons (ps_set (i := 2) sc_pail.nd rfl (.inl rfl) (pe_op op_add pe_int (pe_op op_mul pe_int (pv 1))))
      (pss_cons (ps_for PassesOwn.never rfl (pi_list (pe_slice sl_list (pv 0) po_none (po_some pe_int))) (pg_name (i := 3) sc_pail.nd rfl (.inl rfl))
        (pss_one (ps_set (i := 2) sc_pail.nd rfl (.inl rfl) (pe_op op_mod (pe_callTy call_int1 (g_pail _ (.head _)) B.int (by decide +kernel)
          (pa_cons (pe_op op_add (pe_op op_add (pe_op op_mul (pv 2) pe_int) (pe_op op_mod (pe_callTy call_int1 (g_pail _ (.head _)) B.int (by decide +kernel) (pa_cons (pv 3) pa_nil)) pe_int)) pe_int) pa_nil)) pe_int))))
      (pss_mid (ps_set (i := 4) sc_pail.nd rfl (.inl rfl) (pe_ifExp (pt_cmpR op_lt (pv 1) (pe_callB call_len (g_pail _ (.tail _ (.head _))) B.len (by decide +kernel) (pa_cons (pv 0) pa_nil)) (nomark _))
        (pe_callTy call_int1 (g_pail _ (.head _)) B.int (by decide +kernel) (pa_cons (pe_ix ix_list (pv 0) (pv 1) (fun _ _ => rfl)) pa_nil)) pe_int))
      (pss_one (ps_ret (pe_lst (pa_cons (pv 2) (pa_cons (pe_ifExp (PW.pt (pw_or (pt_cmpR op_lt (pv 4) pe_int (nomark _)) (pw_or1 (pt_cmpR op_ge (pv 4) (pe_op op_pow pe_int pe_int) (nomark _)))))
        (pe_callB call_abs (g_pail _ (.tail _ (.tail _ (.head _)))) B.abs (by decide +kernel) (pa_cons (pv 4) pa_nil)) pe_int) pa_nil))))))), ?_⟩
    refine ⟨_, rfl, _, _, rfl, rfl, .inl ⟨by decide, by decide⟩, _, _, rfl, rfl, ?_⟩
    -- for cell in script[:12]
    refine ⟨_, rfl, _, rfl, a, _, rfl, hS, fun p hp => ?_⟩
    have s0 : Same H (upd H p (.lst (cutV (ns.map V.int) none (some 12)))) := fun b o e => by
      rw [upd_ne (ne_of_none e hp)]
      exact e
    refine ⟨p, rfl, ⟨_, .inl (.inl upd_same)⟩, for_list (K := K) (a := p) (xs := cutV (ns.map V.int) none (some 12))
      (fun _ σ H2 => ∃ (mixed : Int) (v : Option V), σ = [some (.ref a), some (.int k), some (.int mixed), v, none] ∧
        Same (upd H p (.lst (cutV (ns.map V.int) none (some 12)))) H2 ∧ 0 ≤ mixed)
      ⟨_, none, rfl, Same.refl _, by omega⟩ (fun _ _ _ _ ⟨_, _, _, s2, _⟩ => .inl (.inl (s2 _ _ upd_same))) ?_ ?_⟩
    · rintro i y σ H2 hi ⟨mixed, v, rfl, s2, h0⟩
      obtain ⟨z, rfl⟩ := mem_of_cut hi
      refine ⟨_, rfl, _, _, rfl, rfl, .inr ⟨by decide, by decide⟩, _, rfl, .inl ⟨_, rfl, _, _, rfl, rfl, ?_, _, _, rfl, rfl, _, _, rfl, rfl, .inl ⟨_, rfl, _, _, rfl, rfl, ?_, ?_⟩⟩⟩
      · show (0 : Int) < 1000003
        decide
      · show (0 : Int) < 2147483399
        decide
      · exact ⟨_, _, rfl, s2, emod_ge (by decide)⟩
    · rintro σ H2 ⟨mixed, v, rfl, s2, h0⟩
      have s3 : Same H H2 := s0.trans s2
      refine ⟨fun σ' H' => H' = H2 ∧ ∃ z : Int, σ' = [some (.ref a), some (.int k), some (.int mixed), v, some (.int z)], ?_, ?_⟩
      · refine ⟨_, rfl, _, rfl, _, _, rfl, .inl ⟨_, s3.seq hS, rfl⟩, _, _, rfl, rfl, _, rfl, ?_⟩
        refine ite2 (fun hc => ?_) (fun _ => ⟨rfl, 0, rfl⟩)
        rw [List.length_map] at hc
        have hk2 : k < ns.length := by have := of_decide_eq_true hc; omega
        have hat : atI (ns.map V.int) (k : Int) = some (V.int ns[k]) := atI_nat (by simp [hk2])
        exact ⟨_, rfl, _, rfl, a, _, _, _, rfl, rfl, s3.seq hS, hat, .inl ⟨_, rfl, rfl, _, rfl⟩⟩
      rintro σ' H' ⟨rfl, z, rfl⟩
      have absd : ∀ z : Int, 0 ≤ (if z < 0 then -z else z) := fun z => by split <;> omega
      have fin : ∀ d : Int, 0 ≤ d → ([V.int mixed, V.int d] : List V).length ≤ sizeLine ∧ ∀ p2, H' p2 = none → Q (.ref p2) (upd H' p2 (.lst [V.int mixed, V.int d])) := fun d hd => ⟨by show 2 ≤ sizeLine; decide, fun p2 hp2 => hQ _ p2 (s3.free hp2) (s3.trans (Same.new hp2)) ⟨_, _, upd_same, h0, hd⟩⟩
      refine ⟨_, rfl, _, rfl, _, _, rfl, rfl, _, rfl, ?_⟩
      refine ite2 (fun _ => ?_) (fun _ => ?_)
      · exact ⟨_, rfl, _, rfl, fin _ (absd _)⟩
      · refine ⟨_, rfl, _, _, rfl, rfl, ⟨by decide, by decide, by decide⟩, _, _, rfl, rfl, _, rfl, ?_⟩
        refine ite2 (fun _ => ?_) (fun _ => ?_)
        · exact ⟨_, rfl, _, rfl, fin _ (absd _)⟩
        · exact fin _ (by decide)
theorem sc_sup : FnScope ["_law_pail_here", "_law_many", "_law_part"] ["_law_pail_here", "_law_many"] (defScope s_sup) := ⟨rfl, rfl, rfl, by decide +kernel, rfl, by decide +kernel, by decide +kernel⟩
theorem g_sup : ∀ x ∈ (["divmod", "int"] : List Str), (defScope s_sup).names.lookup x = some .globalImplicit := by decide +kernel
def spSup : Sp := fun vs H Q _ => ∃ (a : Addr) (n : Int), vs = [.ref a, .int n] ∧ Pail H a ∧ 0 < n ∧ n.natAbs < 2 ^ 600 ∧
  ∀ (r : Int) (H' : Hp), 0 ≤ r → r < n → Pail H' a → But a H H' → Q (.int r) H'
theorem ok_sup {f : Addr} {fd : FuncData} (F : Fun K "_law_sup" "_law_sup" s_sup f fd) (B : Bl mg) :
    FnOk P w K mg base CX0 1 f fd ["_law_pail_here", "_law_many"] spSup := by
  refine F.ok sc_sup (fun vs H Q E h => ?_) (fun cdv A outer s H vs Q E hr h => ?_)
  · obtain ⟨a, n, rfl, _⟩ := h
    rfl
  · obtain ⟨a, n, rfl, ⟨m, o, ha, hm, ho⟩, hn, hn2, hQ⟩ := h
    refine ⟨_, pss_cons (ps_if (pt_cmpR op_gt (pe_ix ix_list (pv 0) pe_int (fun _ _ => rfl)) pe_int (nomark _))
        (pss_cons (ps_asg (pe_callB call_divmodW (g_sup _ (.head _)) B.divmod (by decide +kernel) (pa_cons (pe_ix ix_list (pv 0) pe_int (fun _ _ => rfl)) (pa_cons (pv 1) pa_nil)))
            (pg_tup (by rfl) (pgs_cons (pg_sub (pv 0) pe_int set_list) (pgs_cons (pg_name (i := 2) sc_sup.nd rfl (.inl rfl)) pgs_nil))))
          (pss_one (ps_ret (pv 2)))) pss_nil)
      (pss_cons (ps_asg (pe_op op_mod (pe_callTy call_int1 (g_sup _ (.tail _ (.head _))) B.int (by decide +kernel) (pa_cons (pe_op op_add (pe_op op_mul (pe_ix ix_list (pv 0) pe_int (fun _ _ => rfl)) pe_int) pe_int) pa_nil)) pe_int) (pg_sub (pv 0) pe_int set_list))
      (pss_one (ps_ret (pe_op op_mod (pe_callTy call_int1 (g_sup _ (.tail _ (.head _))) B.int (by decide +kernel) (pa_cons (pe_op op_fdiv (pe_ix ix_list (pv 0) pe_int (fun _ _ => rfl)) pe_int) pa_nil)) (pv 1))))), ?_⟩
    have hS : SqL K H a [.int m, .int o] := .inl (.inl ha)
    refine ⟨_, rfl, a, _, _, _, rfl, rfl, hS, rfl, _, _, rfl, rfl, _, rfl, ?_⟩
    refine ite2 (fun _ => ?_) (fun _ => ?_)
    · refine ⟨_, rfl, a, _, _, _, rfl, rfl, hS, rfl, _, rfl, _, _, rfl, divp_ok hn hn2, fun p hp => ?_⟩
      have pa : p ≠ a := fun e => by
        rw [e, ha] at hp
        cases hp
      refine ⟨p, _, rfl, .inl (.inl upd_same), rfl, _, _, rfl, _, rfl, a, _, _, 1, rfl, rfl, by rw [upd_ne pa.symm, ha], rfl, _, _, rfl, rfl, ?_⟩
      refine ⟨_, rfl, hQ _ _ (emod_ge hn) (Int.emod_lt_of_pos _ hn) ⟨_, _, upd_same, hm, Int.ediv_nonneg ho (by omega)⟩ ?_⟩
      exact ((But.refl a H).same (Same.new hp)).put
    · refine ⟨_, rfl, a, _, _, _, rfl, rfl, hS, rfl, _, _, rfl, rfl, .inr ⟨by decide, by decide⟩, _, _, rfl, rfl, .inl ⟨_, rfl, _, _, rfl, rfl, ?_, _, rfl, a, _, _, 0, rfl, rfl, ha, rfl, ?_⟩⟩
      · show (0 : Int) < 2147483399
        decide
      have h1 : 0 ≤ (m * 48271 + 11) % 2147483399 := emod_ge (by decide)
      have hS2 : SqL K (upd H a (.lst [.int ((m * 48271 + 11) % 2147483399), .int o])) a [.int ((m * 48271 + 11) % 2147483399), .int o] := .inl (.inl upd_same)
      refine ⟨_, rfl, a, _, _, _, rfl, rfl, hS2, rfl, _, _, rfl, rfl, ⟨by decide, by decide⟩, .inl ⟨_, rfl, _, rfl, _, _, rfl, rfl, hn, ?_⟩⟩
      exact hQ _ _ (emod_ge hn) (Int.emod_lt_of_pos _ hn) ⟨_, _, upd_same, h1, ho⟩ (But.refl a H).put
theorem sc_any : FnScope ["_law_pail_here", "_law_some"] ["_law_pail_here", "_law_some"] (defScope s_any) := ⟨rfl, rfl, rfl, by decide +kernel, rfl, by decide +kernel, by decide +kernel⟩
theorem g_any : ∀ x ∈ (["_law_sup", "len"] : List Str), (defScope s_any).names.lookup x = some .globalImplicit := by decide +kernel
def spAny : Sp := fun vs H Q _ => ∃ (a m : Addr) (xs : List V), vs = [.ref a, .ref m] ∧ Pail H a ∧ H m = some (.lst xs) ∧ m ≠ a ∧ 0 < xs.length ∧ xs.length ≤ 1000 ∧
  ∀ (v : V) (H' : Hp), v ∈ xs → Pail H' a → But a H H' → Q v H'
theorem ok_any {f : Addr} {fd : FuncData} (F : Fun K "_law_any" "_law_any" s_any f fd) (B : Bl mg)
    (D : CallO P w K mg base CX0 1 "_law_sup" ["_law_pail_here", "_law_many"] spSup) :
    FnOk P w K mg base CX0 2 f fd ["_law_pail_here", "_law_some"] spAny := by
  refine F.ok sc_any (fun vs H Q E h => ?_) (fun cdv A outer s H vs Q E hr h => ?_)
  · obtain ⟨a, m, xs, rfl, _⟩ := h
    rfl
  · obtain ⟨a, m, xs, rfl, hj, hm, hne, h0, h1, hQ⟩ := h
    refine ⟨_, pss_one (ps_ret (pe_ix ix_list (pv 1) (pe_doO D hr (g_any _ (.head _)) pass0 (pa_cons (pv 0) (pa_cons
      (pe_callB call_len (g_any _ (.tail _ (.head _))) B.len (by decide +kernel) (pa_cons (pv 1) pa_nil)) pa_nil))) (fun _ _ => rfl))), ?_⟩
    have big : ((xs.length : Nat) : Int).natAbs < 2 ^ 600 := Nat.lt_of_le_of_lt (show _ ≤ 1000 by omega) (by decide)
    refine ⟨_, rfl, _, rfl, _, rfl, _, _, rfl, .inl ⟨_, .inl (.inl hm), rfl⟩, a, _, rfl, hj, by omega, big, fun r H' hr0 hr1 hj' hb => ?_⟩
    have hlt : r.toNat < xs.length := by omega
    have hat : atI xs r = some xs[r.toNat] :=
      (congrArg (atI xs) (show r = ((r.toNat : Nat) : Int) by omega)).trans (atI_nat (by simp [hlt]))
    exact ⟨m, xs, r, _, rfl, rfl, .inl (.inl (hb m _ hm hne)), hat, hQ _ _ (List.getElem_mem hlt) hj' hb⟩
end
end K40
namespace K40
open PySem PySem.Spec PyProof.Rows L2 Tc Evl
def intB : PyData → Bool
  | .int _ => true
  | _ => false
def natB : PyData → Bool
  | .int i => decide (0 ≤ i)
  | _ => false
def posB : PyData → Bool
  | .int i => decide (1 ≤ i)
  | _ => false
def plB : PyData → Bool
  | .int i => decide (0 ≤ i) && decide (i < 3)
  | _ => false
theorem nat_int {d : PyData} (h : natB d = true) : ∃ i : Int, d = .int i ∧ 0 ≤ i := by
  cases d with
  | int i => exact ⟨i, rfl, of_decide_eq_true h⟩
  | _ => cases h
theorem pos_int {d : PyData} (h : posB d = true) : ∃ i : Int, d = .int i ∧ 1 ≤ i := by
  cases d with
  | int i => exact ⟨i, rfl, of_decide_eq_true h⟩
  | _ => cases h
theorem pl_int {d : PyData} (h : plB d = true) : ∃ i : Int, d = .int i ∧ 0 ≤ i ∧ i < 3 := by
  cases d with
  | int i =>
    obtain ⟨a, b⟩ := Bool.and_eq_true_iff.mp h
    exact ⟨i, rfl, of_decide_eq_true a, of_decide_eq_true b⟩
  | _ => cases h
def timesI (p : Int) : Int := if p = 0 then 1 else if p = 1 then 10 else 100
theorem times_le (p : Int) : 1 ≤ timesI p ∧ timesI p ≤ 100 := by
  unfold timesI
  split
  · omega
  · split <;> omega
theorem times_at {p : Int} (h0 : 0 ≤ p) (h1 : p < 3) : atI [V.int 1, V.int 10, V.int 100] p = some (.int (timesI p)) := by
  have : p = 0 ∨ p = 1 ∨ p = 2 := by omega
  rcases this with rfl | rfl | rfl <;> rfl
def nearI (a b : Int) : Int := (2 * a + b) / (2 * b)
def meanI (n t p : Int) : Int := nearI (timesI p * t) n
def spreadI (n t s p : Int) : Int := nearI (timesI p * (n * s - t * t)) (n * n)
structure Tm (K : PySem.W.Frag) (mg : Str → Option Value) (TA : Addr) : Prop where
  gm : mg "_TIMES" = some (.ref TA)
  sq : ∀ H, SqT K H TA [V.int 1, V.int 10, V.int 100]
/-- it is raised, v kept -/
def up (C : Addr) (v : V) (H : Hp) (E : XK) : Prop := ∀ dd, H dd = none → E (.ref C) (some dd) (upd H dd (.xd [("given", v)]))
/-- what raising asks of the class -/
structure Rs (K : PySem.W.Frag) (mg : Str → Option Value) (x : Str) (C : Addr) : Prop where
  nw : NewAble K mg x "given" C
  ex : PySem.W.subIn K (.ref C) (.type "BaseException") = some true
  ty : PySem.W.typeIn K (.ref C) = some (.type "type")
def spB (f : PyData → Bool) : Sp := fun vs H Q _ => ∃ (v : V) (d : PyData), vs = [v] ∧ Dv H v d ∧ Q (.bl (f d)) H
/-- an int within the bound -/
def Bd (d : PyData) : Prop := ∀ i, d = .int i → i.natAbs < 2 ^ 250
section
variable {P : Program} {w : World} {K : PySem.W.Frag} {mg : Str → Option Value} {base : Heap}
theorem sc_is_integer : FnScope ["value"] ["value"] (defScope s_is_integer) := ⟨rfl, rfl, rfl, by decide +kernel, rfl, by decide +kernel, by decide +kernel⟩
theorem g_is_integer : ∀ x ∈ (["isinstance", "int", "bool"] : List Str), (defScope s_is_integer).names.lookup x = some .globalImplicit := by decide +kernel
theorem ok_is_integer {f : Addr} {fd : FuncData} (F : Fun K "is_integer" "is_integer" s_is_integer f fd) (B : Bl mg) : FnOk P w K mg base CX0 1 f fd ["value"] (spB intB) := by
  refine F.ok sc_is_integer (fun vs H Q E h => ?_) (fun cdv A outer s H vs Q E hr h => ?_)
  · obtain ⟨v, d, rfl, _⟩ := h
    rfl
  · obtain ⟨v, d, rfl, hd, q⟩ := h
    refine ⟨_, pss_one (ps_ret (pe_and (pe_callB call_isi (g_is_integer _ (.head _)) B.isinstance (by decide +kernel) (pa_cons (pv 0) (pa_cons (pe_bltn (v := .ty "int") (g_is_integer _ (.tail _ (.head _))) B.int (by decide +kernel) rfl) pa_nil))) (pe_one (pe_not (pe_callB call_isi (g_is_integer _ (.head _)) B.isinstance (by decide +kernel) (pa_cons (pv 0) (pa_cons (pe_bltn (v := .ty "bool") (g_is_integer _ (.tail _ (.tail _ (.head _)))) B.bool (by decide +kernel) rfl) pa_nil))))))), ?_⟩
    refine q_isi rfl hd (by decide) ⟨_, rfl, ?_⟩
    rw [ty_int]
    cases d with
    | int i =>
      refine iteT (q_isi rfl hd (by decide) ⟨_, rfl, ?_⟩)
      rw [ty_bool]
      exact q
    | bool b =>
      refine iteT (q_isi rfl hd (by decide) ⟨_, rfl, ?_⟩)
      rw [ty_bool]
      exact q
    | _ => exact iteF q
theorem sc_is_number : FnScope ["value"] ["value"] (defScope s_is_number) := ⟨rfl, rfl, rfl, by decide +kernel, rfl, by decide +kernel, by decide +kernel⟩
theorem g_is_number : ∀ x ∈ (["is_integer"] : List Str), (defScope s_is_number).names.lookup x = some .globalImplicit := by decide +kernel
theorem ok_is_number {f : Addr} {fd : FuncData} (F : Fun K "is_number" "is_number" s_is_number f fd) (D : CallO P w K mg base CX0 1 "is_integer" ["value"] (spB intB)) : FnOk P w K mg base CX0 2 f fd ["value"] (spB natB) := by
  refine F.ok sc_is_number (fun vs H Q E h => ?_) (fun cdv A outer s H vs Q E hr h => ?_)
  · obtain ⟨v, d, rfl, _⟩ := h
    rfl
  · obtain ⟨v, d, rfl, hd, q⟩ := h
    refine ⟨_, pss_one (ps_ret (pe_and (pe_doO D hr (g_is_number _ (.head _)) pass0 (pa_cons (pv 0) pa_nil)) (pe_one (pe_cmpR op_ge (pv 0) pe_int (nomark _))))), ?_⟩
    refine ⟨_, rfl, v, d, rfl, hd, _, rfl, ?_⟩
    cases d with
    | int i =>
      cases hd
      exact iteT ⟨_, rfl, _, _, rfl, rfl, q⟩
    | _ => exact iteF q
theorem sc_is_places : FnScope ["value"] ["value"] (defScope s_is_places) := ⟨rfl, rfl, rfl, by decide +kernel, rfl, by decide +kernel, by decide +kernel⟩
theorem g_is_places : ∀ x ∈ (["is_number", "len", "_TIMES"] : List Str), (defScope s_is_places).names.lookup x = some .globalImplicit := by decide +kernel
theorem ok_is_places {f TA : Addr} {fd : FuncData} (F : Fun K "is_places" "is_places" s_is_places f fd) (B : Bl mg) (T : Tm K mg TA) (D : CallO P w K mg base CX0 2 "is_number" ["value"] (spB natB)) : FnOk P w K mg base CX0 3 f fd ["value"] (spB plB) := by
  refine F.ok sc_is_places (fun vs H Q E h => ?_) (fun cdv A outer s H vs Q E hr h => ?_)
  · obtain ⟨v, d, rfl, _⟩ := h
    rfl
  · obtain ⟨v, d, rfl, hd, q⟩ := h
    refine ⟨_, pss_one (ps_ret (pe_and (pe_doO D hr (g_is_places _ (.head _)) pass0 (pa_cons (pv 0) pa_nil)) (pe_one (pe_cmpR op_lt (pv 0) (pe_callB call_len (g_is_places _ (.tail _ (.head _))) B.len (by decide +kernel) (pa_cons (pe_glob (v := .ref TA) (g_is_places _ (.tail _ (.tail _ (.head _)))) T.gm rfl) pa_nil)) (nomark _))))), ?_⟩
    refine ⟨_, rfl, v, d, rfl, hd, _, rfl, ?_⟩
    cases e : natB d with
    | true =>
      obtain ⟨i, rfl, h0⟩ := nat_int e
      cases hd
      refine iteT ⟨_, rfl, _, 3, rfl, .inr ⟨_, T.sq _, rfl⟩, _, _, rfl, rfl, ?_⟩
      have z : plB (.int i) = decide (i < ((3 : Nat) : Int)) := by
        show (decide (0 ≤ i) && decide (i < 3)) = _
        rw [decide_eq_true h0] <;> rfl
      rw [z] at q
      exact q
    | false =>
      have z : plB d = false := by
        cases d with
        | int i =>
          show (decide (0 ≤ i) && decide (i < 3)) = _
          have e : decide (0 ≤ i) = false := e
          rw [e] <;> rfl
        | _ => rfl
      rw [z] at q
      exact iteF q
theorem sc_need_places : FnScope ["places"] ["places"] (defScope s_need_places) := ⟨rfl, rfl, rfl, by decide +kernel, rfl, by decide +kernel, by decide +kernel⟩
theorem g_need_places : ∀ x ∈ (["is_places", "InvalidPlaces"] : List Str), (defScope s_need_places).names.lookup x = some .globalImplicit := by decide +kernel
/-- a check -/
def spNeed (C : Addr) (f : PyData → Bool) : Sp := fun vs H Q E => ∃ (v : V) (d : PyData), vs = [v] ∧ Dv H v d ∧ (f d = true → Q .non H) ∧ (f d = false → up C v H E)
theorem ok_need_places {f C : Addr} {fd : FuncData} (F : Fun K "_need_places" "_need_places" s_need_places f fd) (RS : Rs K mg "InvalidPlaces" C)
    (D : CallO P w K mg base CX0 3 "is_places" ["value"] (spB plB)) : FnOk P w K mg base (L2.CX P w) 4 f fd ["places"] (spNeed C plB) := by
  refine F.okX sc_need_places (fun vs H Q E h => ?_) (fun cdv A outer s H vs Q E hr h => ?_)
  · obtain ⟨v, d, rfl, _⟩ := h
    rfl
  · obtain ⟨v, d, rfl, hd, q1, q2⟩ := h
    have tk := takes_of (X := cxOf (L2.CX P w) P w K mg base ["places"] "_need_places" (defScope s_need_places) f cdv A outer s H E) (E := E) rfl rfl rfl rfl
    refine ⟨_, pss_one (ps_if (pt_not (pt_val (pe_doO D hr (g_need_places _ (.head _)) pass0 (pa_cons (pv 0) pa_nil))))
      (pss_one (ps_raise rfl tk (pmk_newX RS.nw RS.ex RS.ty hr (g_need_places _ (.tail _ (.head _))) (pv 0)))) pss_nil), ?_⟩
    refine ⟨_, rfl, v, d, rfl, hd, _, rfl, ?_⟩
    cases e : plB d with
    | true => exact iteF (q1 e)
    | false => exact iteT ⟨_, rfl, fun dd hdd => q2 e dd hdd⟩
theorem sc_need_number : FnScope ["number"] ["number"] (defScope s_need_number) := ⟨rfl, rfl, rfl, by decide +kernel, rfl, by decide +kernel, by decide +kernel⟩
theorem g_need_number : ∀ x ∈ (["is_number", "InvalidNumber"] : List Str), (defScope s_need_number).names.lookup x = some .globalImplicit := by decide +kernel
theorem ok_need_number {f C : Addr} {fd : FuncData} (F : Fun K "_need_number" "_need_number" s_need_number f fd) (RS : Rs K mg "InvalidNumber" C)
    (D : CallO P w K mg base CX0 2 "is_number" ["value"] (spB natB)) : FnOk P w K mg base (L2.CX P w) 3 f fd ["number"] (spNeed C natB) := by
  refine F.okX sc_need_number (fun vs H Q E h => ?_) (fun cdv A outer s H vs Q E hr h => ?_)
  · obtain ⟨v, d, rfl, _⟩ := h
    rfl
  · obtain ⟨v, d, rfl, hd, q1, q2⟩ := h
    have tk := takes_of (X := cxOf (L2.CX P w) P w K mg base ["number"] "_need_number" (defScope s_need_number) f cdv A outer s H E) (E := E) rfl rfl rfl rfl
    refine ⟨_, pss_one (ps_if (pt_not (pt_val (pe_doO D hr (g_need_number _ (.head _)) pass0 (pa_cons (pv 0) pa_nil))))
      (pss_one (ps_raise rfl tk (pmk_newX RS.nw RS.ex RS.ty hr (g_need_number _ (.tail _ (.head _))) (pv 0)))) pss_nil), ?_⟩
    refine ⟨_, rfl, v, d, rfl, hd, _, rfl, ?_⟩
    cases e : natB d with
    | true => exact iteF (q1 e)
    | false => exact iteT ⟨_, rfl, fun dd hdd => q2 e dd hdd⟩
theorem sc_need_people : FnScope ["people", "most"] ["people", "most"] (defScope s_need_people) := ⟨rfl, rfl, rfl, by decide +kernel, rfl, by decide +kernel, by decide +kernel⟩
theorem g_need_people : ∀ x ∈ (["is_integer", "InvalidPeople"] : List Str), (defScope s_need_people).names.lookup x = some .globalImplicit := by decide +kernel
def spPeople (C : Addr) : Sp := fun vs H Q E => ∃ (v : V) (d : PyData), vs = [v, .non] ∧ Dv H v d ∧ (posB d = true → Q .non H) ∧ (posB d = false → up C v H E)
theorem ok_need_people {f C : Addr} {fd : FuncData} (F : Fun K "need_people" "need_people" s_need_people f fd) (RS : Rs K mg "InvalidPeople" C)
    (D : CallO P w K mg base CX0 1 "is_integer" ["value"] (spB intB)) : FnOk P w K mg base (L2.CX P w) 2 f fd ["people", "most"] (spPeople C) := by
  refine F.okX sc_need_people (fun vs H Q E h => ?_) (fun cdv A outer s H vs Q E hr h => ?_)
  · obtain ⟨v, d, rfl, _⟩ := h
    rfl
  · obtain ⟨v, d, rfl, hd, q1, q2⟩ := h
    have tk := takes_of (X := cxOf (L2.CX P w) P w K mg base ["people", "most"] "need_people" (defScope s_need_people) f cdv A outer s H E) (E := E) rfl rfl rfl rfl
    refine ⟨_, pss_one (ps_if (PW.pt (pw_or (pt_not (pt_val (pe_doO D hr (g_need_people _ (.head _)) pass0 (pa_cons (pv 0) pa_nil)))) (pw_or (pt_cmpR op_lt (pv 0) pe_int (nomark _))
      (pw_or1 (PW.pt (pw_and (pt_cmpR op_notN (pv 1) pe_non (nomark _)) (pw_and1 (pt_cmpR op_gt (pv 0) (pv 1) (nomark _)))))))))
      (pss_one (ps_raise rfl tk (pmk_newX RS.nw RS.ex RS.ty hr (g_need_people _ (.tail _ (.head _))) (pv 0)))) pss_nil), ?_⟩
    refine ⟨_, rfl, v, d, rfl, hd, _, rfl, ?_⟩
    cases d with
    | int i =>
      cases hd
      refine iteF ⟨_, rfl, _, _, rfl, rfl, _, rfl, ?_⟩
      by_cases c : i < 1
      · rw [decide_eq_true c]
        refine iteT ⟨_, rfl, fun dd hdd => q2 (decide_eq_false (by omega)) dd hdd⟩
      · rw [decide_eq_false c]
        refine iteF ⟨_, rfl, rfl, _, rfl, ?_⟩
        exact iteF (q1 (decide_eq_true (by omega)))
    | _ => exact iteT ⟨_, rfl, fun dd hdd => q2 rfl dd hdd⟩
end
end K40
namespace K40
open PySem PySem.Spec PyProof.Rows L2 Tc Evl
theorem bd_mul {i j : Int} {a b : Nat} (ha : i.natAbs < 2 ^ a) (hb : j.natAbs < 2 ^ b) : (i * j).natAbs < 2 ^ (a + b) := wide_lt ha hb
theorem bd_two {i : Int} {a b : Nat} (ha : i.natAbs < 2 ^ a) (h : a + 1 = b) : (2 * i).natAbs < 2 ^ b := by
  subst h
  have := Nat.pow_succ (n := 2) (m := a)
  omega
theorem bd_mono {i : Int} {a b : Nat} (ha : i.natAbs < 2 ^ a) (h : a ≤ b) : i.natAbs < 2 ^ b := Nat.lt_of_lt_of_le ha (Nat.pow_le_pow_right (by decide) h)
section
variable {P : Program} {w : World} {K : PySem.W.Frag} {mg : Str → Option Value} {base : Heap}
theorem sc_nearest : FnScope ["number", "divisor"] ["number", "divisor"] (defScope s_nearest) := ⟨rfl, rfl, rfl, by decide +kernel, rfl, by decide +kernel, by decide +kernel⟩
def spNear : Sp := fun vs H Q _ => ∃ a b : Int, vs = [.int a, .int b] ∧ 0 < b ∧ b.natAbs < 2 ^ 599 ∧ Q (.int (nearI a b)) H
theorem ok_nearest {f : Addr} {fd : FuncData} (F : Fun K "nearest" "nearest" s_nearest f fd) : FnOk P w K mg base CX0 1 f fd ["number", "divisor"] spNear := by
  refine F.ok sc_nearest (fun vs H Q E h => ?_) (fun cdv A outer s H vs Q E hr h => ?_)
  · obtain ⟨a, b, rfl, _⟩ := h
    rfl
  · obtain ⟨a, b, rfl, h0, hb, q⟩ := h
    refine ⟨_, pss_one (ps_ret (pe_op op_fdivW (pe_op op_add (pe_op op_mul pe_int (pv 0)) (pv 1)) (pe_op op_mul pe_int (pv 1)))), ?_⟩
    exact ⟨_, rfl, _, _, rfl, rfl, .inl ⟨by decide, by decide⟩, _, rfl, _, _, rfl, rfl, _, rfl, _, _, rfl, rfl, .inl ⟨by decide, by decide⟩, _, _, rfl, rfl, div_ok (by omega) (bd_two hb rfl), q⟩
theorem sc_mean_of : FnScope ["people", "total", "places"] ["people", "total", "places"] (defScope s_mean_of) := ⟨rfl, rfl, rfl, by decide +kernel, rfl, by decide +kernel, by decide +kernel⟩
theorem g_mean_of : ∀ x ∈ (["nearest", "_TIMES"] : List Str), (defScope s_mean_of).names.lookup x = some .globalImplicit := by decide +kernel
def spMean : Sp := fun vs H Q _ => ∃ n t p : Int, vs = [.int n, .int t, .int p] ∧ 0 < n ∧ n.natAbs < 2 ^ 250 ∧ 0 ≤ p ∧ p < 3 ∧ Q (.int (meanI n t p)) H
theorem ok_mean_of {f TA : Addr} {fd : FuncData} (F : Fun K "mean_of" "mean_of" s_mean_of f fd) (T : Tm K mg TA) (D : CallO P w K mg base CX0 1 "nearest" ["number", "divisor"] spNear) : FnOk P w K mg base CX0 2 f fd ["people", "total", "places"] spMean := by
  refine F.ok sc_mean_of (fun vs H Q E h => ?_) (fun cdv A outer s H vs Q E hr h => ?_)
  · obtain ⟨n, t, p, rfl, _⟩ := h
    rfl
  · obtain ⟨n, t, p, rfl, h0, hb, p0, p1, q⟩ := h
    refine ⟨_, pss_one (ps_ret (pe_doO D hr (g_mean_of _ (.head _)) pass0 (pa_cons (pe_op op_mul (pe_ix ix_tup (pe_glob (v := .ref TA) (g_mean_of _ (.tail _ (.head _))) T.gm rfl) (pv 2) (fun _ _ => rfl)) (pv 1)) (pa_cons (pv 0) pa_nil)))), ?_⟩
    have tl := times_le p
    exact ⟨_, rfl, TA, _, _, _, rfl, rfl, T.sq _, times_at p0 p1, _, rfl, _, _, rfl, rfl, .inl ⟨by omega, by omega⟩, _, rfl, _, _, rfl, h0, bd_mono hb (by decide), q⟩
theorem sc_spread_of : FnScope ["people", "total", "squares", "places"] ["people", "total", "squares", "places"] (defScope s_spread_of) := ⟨rfl, rfl, rfl, by decide +kernel, rfl, by decide +kernel, by decide +kernel⟩
theorem g_spread_of : ∀ x ∈ (["nearest", "_TIMES"] : List Str), (defScope s_spread_of).names.lookup x = some .globalImplicit := by decide +kernel
def spSpread : Sp := fun vs H Q _ => ∃ n t s p : Int, vs = [.int n, .int t, .int s, .int p] ∧ 0 < n ∧ n.natAbs < 2 ^ 250 ∧ t.natAbs < 2 ^ 250 ∧ s.natAbs < 2 ^ 250 ∧ 0 ≤ p ∧ p < 3 ∧ Q (.int (spreadI n t s p)) H
theorem ok_spread_of {f TA : Addr} {fd : FuncData} (F : Fun K "spread_of" "spread_of" s_spread_of f fd) (T : Tm K mg TA) (D : CallO P w K mg base CX0 1 "nearest" ["number", "divisor"] spNear) : FnOk P w K mg base CX0 2 f fd ["people", "total", "squares", "places"] spSpread := by
  refine F.ok sc_spread_of (fun vs H Q E h => ?_) (fun cdv A outer s H vs Q E hr h => ?_)
  · obtain ⟨n, t, s, p, rfl, _⟩ := h
    rfl
  · obtain ⟨n, t, s, p, rfl, h0, hn, ht, hs, p0, p1, q⟩ := h
    refine ⟨_, pss_one (ps_ret (pe_doO D hr (g_spread_of _ (.head _)) pass0 (pa_cons (pe_op op_mul (pe_ix ix_tup (pe_glob (v := .ref TA) (g_spread_of _ (.tail _ (.head _))) T.gm rfl) (pv 3) (fun _ _ => rfl)) (pe_op op_sub (pe_op op_mulW (pv 0) (pv 2)) (pe_op op_mulW (pv 1) (pv 1)))) (pa_cons (pe_op op_mulW (pv 0) (pv 0)) pa_nil)))), ?_⟩
    have tl := times_le p
    have nn : 0 < n * n := Int.mul_pos h0 h0
    exact ⟨_, rfl, TA, _, _, _, rfl, rfl, T.sq _, times_at p0 p1, _, rfl, _, rfl, _, _, rfl, rfl, wide_mul hn hs (by decide) (by decide) (by decide), _, rfl, _, rfl, _, _, rfl, rfl, wide_mul ht ht (by decide) (by decide) (by decide), _, _, rfl, rfl, _, _, rfl, rfl, .inl ⟨by omega, by omega⟩,
      _, rfl, _, rfl, _, _, rfl, rfl, wide_mul hn hn (by decide) (by decide) (by decide), _, _, rfl, nn, bd_mono (bd_mul hn hn) (by decide), q⟩
theorem sc_told_mean : FnScope ["people", "total", "places"] ["people", "total", "places"] (defScope s_told_mean) := ⟨rfl, rfl, rfl, by decide +kernel, rfl, by decide +kernel, by decide +kernel⟩
theorem g_told_mean : ∀ x ∈ (["need_people", "_need_number", "_need_places", "mean_of"] : List Str), (defScope s_told_mean).names.lookup x = some .globalImplicit := by decide +kernel
def spTM (CP CN CL : Addr) : Sp := fun vs H Q E => ∃ (v1 v2 v3 : V) (d1 d2 d3 : PyData), vs = [v1, v2, v3] ∧ (Dv H v1 d1 ∧ Dv H v2 d2 ∧ Dv H v3 d3) ∧ Bd d1 ∧ (posB d1 = false → up CP v1 H E) ∧ (posB d1 = true → natB d2 = false → up CN v2 H E) ∧ (posB d1 = true → natB d2 = true → plB d3 = false → up CL v3 H E) ∧
  ∀ n t p : Int, d1 = .int n → d2 = .int t → d3 = .int p → 1 ≤ n → 0 ≤ t → 0 ≤ p → p < 3 → Q (.int (meanI n t p)) H
theorem ok_told_mean {f CP CN CL : Addr} {fd : FuncData} (F : Fun K "told_mean" "told_mean" s_told_mean f fd) (DP : CallO P w K mg base (L2.CX P w) 2 "need_people" ["people", "most"] (spPeople CP)) (DN : CallO P w K mg base (L2.CX P w) 3 "_need_number" ["number"] (spNeed CN natB))
    (DL : CallO P w K mg base (L2.CX P w) 4 "_need_places" ["places"] (spNeed CL plB)) (DM : CallO P w K mg base CX0 2 "mean_of" ["people", "total", "places"] spMean) : FnOk P w K mg base (L2.CX P w) 5 f fd ["people", "total", "places"] (spTM CP CN CL) := by
  refine F.okX sc_told_mean (fun vs H Q E h => ?_) (fun cdv A outer s H vs Q E hr h => ?_)
  · obtain ⟨v1, v2, v3, d1, d2, d3, rfl, _⟩ := h
    rfl
  · obtain ⟨v1, v2, v3, d1, d2, d3, rfl, ⟨h1, h2, h3⟩, b1, q1, q2, q3, q⟩ := h
    have tk := takes_of (X := cxOf (L2.CX P w) P w K mg base ["people", "total", "places"] "told_mean" (defScope s_told_mean) f cdv A outer s H E) (E := E) rfl rfl rfl rfl
    refine ⟨_, pss_cons (ps_expr (pe_doO DP (hr.mono (by decide)) (g_told_mean _ (.head _)) (passes_call tk fun _ _ _ _ h => h) (pa_cons (pv 0) (pa_cons pe_non pa_nil))))
      (pss_cons (ps_expr (pe_doO DN (hr.mono (by decide)) (g_told_mean _ (.tail _ (.head _))) (passes_call tk fun _ _ _ _ h => h) (pa_cons (pv 1) pa_nil)))
      (pss_cons (ps_expr (pe_doO DL (hr.mono (by decide)) (g_told_mean _ (.tail _ (.tail _ (.head _)))) (passes_call tk fun _ _ _ _ h => h) (pa_cons (pv 2) pa_nil)))
      (pss_one (ps_ret (pe_doO DM (hr.mono (by decide)) (g_told_mean _ (.tail _ (.tail _ (.tail _ (.head _))))) pass0 (pa_cons (pv 0) (pa_cons (pv 1) (pa_cons (pv 2) pa_nil)))))))), ?_⟩
    refine ⟨_, rfl, v1, d1, rfl, h1, fun e1 => ?_, q1⟩
    refine ⟨_, rfl, v2, d2, rfl, h2, fun e2 => ?_, q2 e1⟩
    refine ⟨_, rfl, v3, d3, rfl, h3, fun e3 => ?_, q3 e1 e2⟩
    obtain ⟨n, rfl, n1⟩ := pos_int e1
    obtain ⟨t, rfl, t0⟩ := nat_int e2
    obtain ⟨p, rfl, p0, p1⟩ := pl_int e3
    cases h1
    cases h2
    cases h3
    exact ⟨_, rfl, _, rfl, _, rfl, n, t, p, rfl, by omega, b1 n rfl, p0, p1, q n t p rfl rfl rfl n1 t0 p0 p1⟩
theorem sc_told_spread : FnScope ["people", "total", "squares", "places"] ["people", "total", "squares", "places"] (defScope s_told_spread) := ⟨rfl, rfl, rfl, by decide +kernel, rfl, by decide +kernel, by decide +kernel⟩
theorem g_told_spread : ∀ x ∈ (["need_people", "_need_number", "InvalidNumber", "_need_places", "spread_of"] : List Str), (defScope s_told_spread).names.lookup x = some .globalImplicit := by decide +kernel
def fewB : PyData → PyData → PyData → Bool
  | .int n, .int t, .int s => decide (n * s < t * t)
  | _, _, _ => false
def spTS (CP CN CL : Addr) : Sp := fun vs H Q E => ∃ (v1 v2 v3 v4 : V) (d1 d2 d3 d4 : PyData), vs = [v1, v2, v3, v4] ∧ (Dv H v1 d1 ∧ Dv H v2 d2 ∧ Dv H v3 d3 ∧ Dv H v4 d4) ∧ (Bd d1 ∧ Bd d2 ∧ Bd d3) ∧ (posB d1 = false → up CP v1 H E) ∧ (posB d1 = true → natB d2 = false → up CN v2 H E) ∧
  (posB d1 = true → natB d2 = true → natB d3 = false ∨ fewB d1 d2 d3 = true → up CN v3 H E) ∧ (posB d1 = true → natB d2 = true → natB d3 = true → fewB d1 d2 d3 = false → plB d4 = false → up CL v4 H E) ∧
  ∀ n t s p : Int, d1 = .int n → d2 = .int t → d3 = .int s → d4 = .int p → 1 ≤ n → 0 ≤ t → 0 ≤ s → t * t ≤ n * s → 0 ≤ p → p < 3 → Q (.int (spreadI n t s p)) H
theorem ok_told_spread {f CP CN CL : Addr} {fd : FuncData} (F : Fun K "told_spread" "told_spread" s_told_spread f fd) (RS : Rs K mg "InvalidNumber" CN) (DP : CallO P w K mg base (L2.CX P w) 2 "need_people" ["people", "most"] (spPeople CP)) (DN : CallO P w K mg base (L2.CX P w) 3 "_need_number" ["number"] (spNeed CN natB))
    (DL : CallO P w K mg base (L2.CX P w) 4 "_need_places" ["places"] (spNeed CL plB)) (DM : CallO P w K mg base CX0 2 "spread_of" ["people", "total", "squares", "places"] spSpread) : FnOk P w K mg base (L2.CX P w) 5 f fd ["people", "total", "squares", "places"] (spTS CP CN CL) := by
  refine F.okX sc_told_spread (fun vs H Q E h => ?_) (fun cdv A outer s H vs Q E hr h => ?_)
  · obtain ⟨v1, v2, v3, v4, d1, d2, d3, d4, rfl, _⟩ := h
    rfl
  · obtain ⟨v1, v2, v3, v4, d1, d2, d3, d4, rfl, ⟨h1, h2, h3, h4⟩, ⟨b1, b2, b3⟩, q1, q2, q3, q4, q⟩ := h
    have tk := takes_of (X := cxOf (L2.CX P w) P w K mg base ["people", "total", "squares", "places"] "told_spread" (defScope s_told_spread) f cdv A outer s H E) (E := E) rfl rfl rfl rfl
    refine ⟨_, pss_cons (ps_expr (pe_doO DP (hr.mono (by decide)) (g_told_spread _ (.head _)) (passes_call tk fun _ _ _ _ h => h) (pa_cons (pv 0) (pa_cons pe_non pa_nil))))
      (pss_cons (ps_expr (pe_doO DN (hr.mono (by decide)) (g_told_spread _ (.tail _ (.head _))) (passes_call tk fun _ _ _ _ h => h) (pa_cons (pv 1) pa_nil)))
      (pss_cons (ps_expr (pe_doO DN (hr.mono (by decide)) (g_told_spread _ (.tail _ (.head _))) (passes_call tk fun _ _ _ _ h => h) (pa_cons (pv 2) pa_nil)))
      (pss_cons (ps_if (pt_cmpR op_lt (pe_op op_mulW (pv 0) (pv 2)) (pe_op op_mulW (pv 1) (pv 1)) (nomark _)) (pss_one (ps_raise rfl tk (pmk_newX RS.nw RS.ex RS.ty hr (g_told_spread _ (.tail _ (.tail _ (.head _)))) (pv 2)))) pss_nil)
      (pss_cons (ps_expr (pe_doO DL (hr.mono (by decide)) (g_told_spread _ (.tail _ (.tail _ (.tail _ (.head _))))) (passes_call tk fun _ _ _ _ h => h) (pa_cons (pv 3) pa_nil)))
      (pss_one (ps_ret (pe_doO DM (hr.mono (by decide)) (g_told_spread _ (.tail _ (.tail _ (.tail _ (.tail _ (.head _)))))) pass0 (pa_cons (pv 0) (pa_cons (pv 1) (pa_cons (pv 2) (pa_cons (pv 3) pa_nil))))))))))), ?_⟩
    refine ⟨_, rfl, v1, d1, rfl, h1, fun e1 => ?_, q1⟩
    refine ⟨_, rfl, v2, d2, rfl, h2, fun e2 => ?_, q2 e1⟩
    refine ⟨_, rfl, v3, d3, rfl, h3, fun e3 => ?_, fun e3 => q3 e1 e2 (.inl e3)⟩
    obtain ⟨n, rfl, n1⟩ := pos_int e1
    obtain ⟨t, rfl, t0⟩ := nat_int e2
    obtain ⟨s', rfl, s0⟩ := nat_int e3
    cases h1
    cases h2
    cases h3
    have bn := b1 n rfl
    have bt := b2 t rfl
    have bs := b3 s' rfl
    refine ⟨_, rfl, _, rfl, _, _, rfl, rfl, wide_mul bn bs (by decide) (by decide) (by decide), _, rfl, _, rfl, _, _, rfl, rfl, wide_mul bt bt (by decide) (by decide) (by decide), _, _, rfl, rfl, _, rfl, ?_⟩
    by_cases c : n * s' < t * t
    · rw [decide_eq_true c]
      exact iteT ⟨_, rfl, fun dd hdd => q3 e1 e2 (.inr (decide_eq_true c)) dd hdd⟩
    rw [decide_eq_false c]
    refine iteF ?_
    refine ⟨_, rfl, v4, d4, rfl, h4, fun e4 => ?_, q4 e1 e2 e3 (decide_eq_false c)⟩
    obtain ⟨p, rfl, p0, p1⟩ := pl_int e4
    cases h4
    exact ⟨_, rfl, _, rfl, _, rfl, _, rfl, n, t, s', p, rfl, by omega, bn, bt, bs, p0, p1, q n t s' p rfl rfl rfl rfl n1 t0 s0 (by omega) p0 p1⟩
end
end K40
namespace Tc
open PySem PySem.Spec PyProof.Rows L2
/-- repr(x), also where an exception is handled -/
theorem call_reprU {X : Cx} (hun : X.A.units + 200 < cLine) (hgd : X.A.guards = some []) (hsm : ∃ o, X.K.lookup sysModules = some o) :
    CallR X (.builtin "repr") rRepr := by
  intro pins s σ H xs us Q I r h
  obtain ⟨v, d, rfl, hv, hs, hd, hl, q⟩ := h
  obtain ⟨u, rfl, ru⟩ := vals1 r
  have sm : H sysModules = none := by
    obtain ⟨o, ho⟩ := hsm
    exact I.bs _ _ (I.ok.mod.kin _ _ ho) |>.2
  obtain ⟨as, rd, na⟩ := Dv.reads I sm hv u ru
  cases hv with
  | non =>
    cases ru
    exact PySem.P.repr_of_none ⟨.str _, H, I.tok _, ⟨_, rfl⟩, q⟩
  | bl b =>
    cases ru
    exact PySem.P.repr_of_bool ⟨.str _, H, I.tok _, ⟨_, rfl⟩, q⟩
  | int i =>
    obtain ⟨t, rfl⟩ := ru
    exact PySem.P.repr_of_int (by simpa [PyData.showable] using hs) ⟨.str _, H, I.tok _, ⟨_, rfl⟩, q⟩
  | str x =>
    obtain ⟨t, rfl⟩ := ru
    exact PySem.P.repr_of_str ⟨.str _, H, I.tok _, ⟨_, rfl⟩, q⟩ (by simpa [PyData.shown] using hl)
  | lst _ _ | tup _ _ | dct _ _ =>
    cases ru
    refine repr_of_reads' rd hs (fun _ => na) hgd (by omega) (fun _ _ e => e) (fun h' u tk hk => ?_) hl
    exact ⟨.str _, H, I.kept (t' := tk) hk, ⟨_, rfl⟩, q⟩
end Tc
namespace K40
open PySem PySem.Spec PyProof.Rows L2 Tc Evl
section
variable {P : Program} {w : World} {K : PySem.W.Frag} {mg : Str → Option Value} {base : Heap}
theorem sc_is_next : FnScope ["_law_told", "_law_top", "_law_bottom"] ["_law_told", "_law_top", "_law_bottom"] (defScope s_is_next) := ⟨rfl, rfl, rfl, by decide +kernel, rfl, by decide +kernel, by decide +kernel⟩
theorem g_is_next : ∀ x ∈ (["isinstance", "int", "bool"] : List Str), (defScope s_is_next).names.lookup x = some .globalImplicit := by decide +kernel
def spNext : Sp := fun vs H Q _ => ∃ t a b : Int, vs = [.int t, .int a, .int b] ∧ t.natAbs < 2 ^ 600 ∧ b.natAbs < 2 ^ 599 ∧ Q (.bl (decide (2 * b * t ≤ 2 * a + b) && decide (2 * a + b < 2 * b * (t + 1)))) H
theorem ok_is_next {f : Addr} {fd : FuncData} (F : Fun K "_law_is_next" "_law_is_next" s_is_next f fd) (B : Bl mg) : FnOk P w K mg base CX0 1 f fd ["_law_told", "_law_top", "_law_bottom"] spNext := by
  refine F.ok sc_is_next (fun vs H Q E h => ?_) (fun cdv A outer s H vs Q E hr h => ?_)
  · obtain ⟨t, a, b, rfl, _⟩ := h
    rfl
  · obtain ⟨t, a, b, rfl, ht, hb, q⟩ := h
    refine ⟨_, pss_cons (ps_if (PW.pt (pw_or (pt_not (pt_val (pe_callB call_isi (g_is_next _ (.head _)) B.isinstance (by decide +kernel) (pa_cons (pv 0) (pa_cons (pe_bltn (v := .ty "int") (g_is_next _ (.tail _ (.head _))) B.int (by decide +kernel) rfl) pa_nil))))) (pw_or1 (pt_val (pe_callB call_isi (g_is_next _ (.head _)) B.isinstance (by decide +kernel) (pa_cons (pv 0) (pa_cons (pe_bltn (v := .ty "bool") (g_is_next _ (.tail _ (.tail _ (.head _)))) B.bool (by decide +kernel) rfl) pa_nil))))))) (pss_one (ps_ret pe_bl)) pss_nil)
      (pss_one (ps_ret (pe_and (pe_cmpR op_le (pe_op op_mulW (pe_op op_mul pe_int (pv 2)) (pv 0)) (pe_op op_add (pe_op op_mul pe_int (pv 1)) (pv 2)) (nomark _))
        (pe_one (pe_cmpR op_lt (pe_op op_add (pe_op op_mul pe_int (pv 1)) (pv 2)) (pe_op op_mulW (pe_op op_mul pe_int (pv 2)) (pe_op op_add (pv 0) pe_int)) (nomark _)))))), ?_⟩
    have b2 : (2 * b).natAbs < 2 ^ 600 := bd_two hb rfl
    have t2 : (t + 1).natAbs < 2 ^ 601 := by
      have : (2 : Nat) ^ 601 = 2 ^ 600 * 2 := Nat.pow_succ 2 600
      have z : 0 < (2 : Nat) ^ 600 := Nat.pow_pos (by decide)
      omega
    refine q_isi rfl (.int t) (by decide) ⟨_, rfl, ?_⟩
    rw [ty_int]
    refine iteF (q_isi rfl (.int t) (by decide) ⟨_, rfl, ?_⟩)
    rw [ty_bool]
    refine iteF ?_
    refine ⟨_, rfl, _, _, rfl, rfl, .inl ⟨by decide, by decide⟩, _, rfl, _, _, rfl, rfl, wide_mul b2 ht (by decide) (by decide) (by decide), _, rfl, _, _, rfl, rfl, .inl ⟨by decide, by decide⟩, _, rfl, _, _, rfl, rfl, _, _, rfl, rfl, _, rfl, ?_⟩
    by_cases c : 2 * b * t ≤ 2 * a + b
    · rw [decide_eq_true c] at q ⊢
      exact iteT ⟨_, rfl, _, _, rfl, rfl, .inl ⟨by decide, by decide⟩, _, rfl, _, _, rfl, rfl, _, rfl, _, _, rfl, rfl, .inl ⟨by decide, by decide⟩, _, rfl, _, _, rfl, rfl, _, _, rfl, rfl, wide_mul b2 t2 (by decide) (by decide) (by decide), _, _, rfl, rfl, q⟩
    · rw [decide_eq_false c] at q ⊢
      exact iteF q
theorem sc_natural : FnScope ["_law_value"] ["_law_value"] (defScope s_natural) := ⟨rfl, rfl, rfl, by decide +kernel, rfl, by decide +kernel, by decide +kernel⟩
theorem g_natural : ∀ x ∈ (["isinstance", "int", "bool"] : List Str), (defScope s_natural).names.lookup x = some .globalImplicit := by decide +kernel
theorem ok_natural {f : Addr} {fd : FuncData} (F : Fun K "_law_natural" "_law_natural" s_natural f fd) (B : Bl mg) : FnOk P w K mg base CX0 1 f fd ["_law_value"] (spB natB) := by
  refine F.ok sc_natural (fun vs H Q E h => ?_) (fun cdv A outer s H vs Q E hr h => ?_)
  · obtain ⟨v, d, rfl, _⟩ := h
    rfl
  · obtain ⟨v, d, rfl, hd, q⟩ := h
    refine ⟨_, pss_one (ps_ret (pe_and (pe_callB call_isi (g_natural _ (.head _)) B.isinstance (by decide +kernel) (pa_cons (pv 0) (pa_cons (pe_bltn (v := .ty "int") (g_natural _ (.tail _ (.head _))) B.int (by decide +kernel) rfl) pa_nil))) (pe_and (pe_not (pe_callB call_isi (g_natural _ (.head _)) B.isinstance (by decide +kernel) (pa_cons (pv 0) (pa_cons (pe_bltn (v := .ty "bool") (g_natural _ (.tail _ (.tail _ (.head _)))) B.bool (by decide +kernel) rfl) pa_nil)))) (pe_one (pe_cmpR op_ge (pv 0) pe_int (nomark _)))))), ?_⟩
    refine q_isi rfl hd (by decide) ⟨_, rfl, ?_⟩
    rw [ty_int]
    cases d with
    | int i =>
      cases hd
      refine iteT (q_isi rfl (.int i) (by decide) ⟨_, rfl, _, rfl, ?_⟩)
      rw [ty_bool]
      exact iteT ⟨_, rfl, _, _, rfl, rfl, q⟩
    | bool b =>
      refine iteT (q_isi rfl hd (by decide) ⟨_, rfl, _, rfl, ?_⟩)
      rw [ty_bool]
      exact iteF q
    | _ => exact iteF q
theorem sc_whole : FnScope ["_law_value", "_law_least", "_law_most"] ["_law_value", "_law_least", "_law_most"] (defScope s_whole) := ⟨rfl, rfl, rfl, by decide +kernel, rfl, by decide +kernel, by decide +kernel⟩
theorem g_whole : ∀ x ∈ (["isinstance", "int", "bool"] : List Str), (defScope s_whole).names.lookup x = some .globalImplicit := by decide +kernel
def spWhole : Sp := fun vs H Q _ => ∃ (v : V) (d : PyData), vs = [v, .int 0, .int 2] ∧ Dv H v d ∧ Q (.bl (plB d)) H
theorem ok_whole {f : Addr} {fd : FuncData} (F : Fun K "_law_whole" "_law_whole" s_whole f fd) (B : Bl mg) : FnOk P w K mg base CX0 1 f fd ["_law_value", "_law_least", "_law_most"] spWhole := by
  refine F.ok sc_whole (fun vs H Q E h => ?_) (fun cdv A outer s H vs Q E hr h => ?_)
  · obtain ⟨v, d, rfl, _⟩ := h
    rfl
  · obtain ⟨v, d, rfl, hd, q⟩ := h
    refine ⟨_, pss_one (ps_ret (pe_and (pe_callB call_isi (g_whole _ (.head _)) B.isinstance (by decide +kernel) (pa_cons (pv 0) (pa_cons (pe_bltn (v := .ty "int") (g_whole _ (.tail _ (.head _))) B.int (by decide +kernel) rfl) pa_nil))) (pe_and (pe_not (pe_callB call_isi (g_whole _ (.head _)) B.isinstance (by decide +kernel) (pa_cons (pv 0) (pa_cons (pe_bltn (v := .ty "bool") (g_whole _ (.tail _ (.tail _ (.head _)))) B.bool (by decide +kernel) rfl) pa_nil)))) (pe_and (pe_cmpR op_le (pv 1) (pv 0) (nomark _)) (pe_one (pe_cmpR op_le (pv 0) (pv 2) (nomark _))))))), ?_⟩
    refine q_isi rfl hd (by decide) ⟨_, rfl, ?_⟩
    rw [ty_int]
    cases d with
    | int i =>
      cases hd
      refine iteT (q_isi rfl (.int i) (by decide) ⟨_, rfl, _, rfl, ?_⟩)
      rw [ty_bool]
      refine iteT ⟨_, rfl, _, rfl, _, _, rfl, rfl, _, rfl, ?_⟩
      have q : Q (.bl (decide (0 ≤ i) && decide (i < 3))) H := q
      by_cases c : 0 ≤ i
      · rw [decide_eq_true c] at q ⊢
        have e : decide (i < 3) = decide (i ≤ 2) := decide_eq_decide.mpr (by omega)
        rw [e] at q
        exact iteT ⟨_, rfl, _, rfl, _, _, rfl, rfl, q⟩
      · rw [decide_eq_false c] at q ⊢
        exact iteF q
    | bool b =>
      refine iteT (q_isi rfl hd (by decide) ⟨_, rfl, _, rfl, ?_⟩)
      rw [ty_bool]
      exact iteF q
    | _ => exact iteF q
end
/-- what a lambda's exceptions are -/
structure Hx (K : PySem.W.Frag) (mg : Str → Option Value) (CP CN CL : Addr) : Prop where
  ws : mg "WrongValue" = some (.ref (He.ga K "WrongValue"))
  wn : mg "WrongName" = some (.ref (He.ga K "WrongName"))
  np : mg "NotPossible" = some (.ref (He.ga K "NotPossible"))
  gp : mg "InvalidPeople" = some (.ref CP)
  gn : mg "InvalidNumber" = some (.ref CN)
  gl : mg "InvalidPlaces" = some (.ref CL)
  isin : mg "isinstance" = none
  rep : mg "repr" = none
  ve : mg "ValueError" = none
  caught : ∀ C, C = CP ∨ C = CN ∨ C = CL → PySem.W.exmAny K (.ref C) [.ref CP, .ref CN, .ref CL] = some true
  exa : ∀ C, C = CP ∨ C = CN ∨ C = CL → ExA K C
  noF : ∀ C, C = CP ∨ C = CN ∨ C = CL → PySem.W.findIn K (.ref C) "given" = some none
  k : ∀ C D, C = CP ∨ C = CN ∨ C = CL → D = CP ∨ D = CN ∨ D = CL → PySem.W.kitOne K (.ref C) (.ref D) = some (decide (C = D))
  kw : ∀ C, C = CP ∨ C = CN ∨ C = CL → PySem.W.kitOne K (.ref C) (.ref (He.ga K "WrongValue")) = some true
  kv : ∀ C, C = CP ∨ C = CN ∨ C = CL → PySem.W.kitOne K (.ref C) (.type "ValueError") = some true
  kn : ∀ C, C = CP ∨ C = CN ∨ C = CL → PySem.W.kitOne K (.ref C) (.ref (He.ga K "WrongName")) = some false
  kp : ∀ C, C = CP ∨ C = CN ∨ C = CL → PySem.W.kitOne K (.ref C) (.ref (He.ga K "NotPossible")) = some false
  n1 : CP ≠ CN
  n2 : CP ≠ CL
  n3 : CN ≠ CL
/-- the suite of a def's only clause -/
def suiteOf (st : Stmt) : List Stmt := match defBody st with
  | [.Try _ [.ExceptHandler _ _ b _] _ _ _] => b
  | _ => []
theorem pss_ex {ι : Type} {X : Cx} {body : List Stmt} {c : ι → Prop} {t : ι → TS} (h : ∀ i, c i → PSs X body (t i)) : PSs X body (fun D σ H => ∃ i, c i ∧ t i D σ H) := by
  constructor
  intro pins s σ H D I hh
  obtain ⟨i, hc, ht⟩ := hh
  exact (h i hc).run pins s σ H D I ht
theorem takes_len {X : Cx} {W : WX} (tk : Takes X W) : Takes X (fun cls d σ H => σ.length = X.N.length → W cls d σ H) := fun u s' x => by
  obtain ⟨a, B, sI, pins, σ, H, cls, d, e, I, r1, r2, r3, r4, r5, r6, w⟩ := x
  exact tk u s' ⟨a, B, sI, pins, σ, H, cls, d, e, I, r1, r2, r3, r4, r5, r6, w I.len⟩
def kindOf (CP CN C : Addr) : Str := if C = CP then "people" else if C = CN then "number" else "places"
/-- _law_ended of a lambda -/
def TTe (CP CN CL : Addr) : (XK → Hp → VK → Prop) → Hp → VK → Prop := fun tl H Q =>
  tl (fun cls d H' => ∃ (C dd : Addr) (v : V) (dt : PyData), cls = .ref C ∧ (C = CP ∨ C = CN ∨ C = CL) ∧ d = some dd ∧ H' dd = some (.xd [("given", v)]) ∧ Dv H' v dt ∧ Good dt ∧ ∀ p H2, Same H' H2 → H2 p = some (.lst [.str (kindOf CP CN C), .str dt.shown]) → Q (.ref p) H2) H
    (fun v H1 => [V.str "gave", v].length ≤ sizeLine ∧ ∀ p, H1 p = none → Q (.ref p) (upd H1 p (.lst [.str "gave", v])))
theorem sc_ended : FnScope ["_law_act", "e", "_law_kinds", "_law_is_one"] ["_law_act"] (defScope s_ended) := ⟨rfl, rfl, rfl, by decide +kernel, rfl, by decide +kernel, by decide +kernel⟩
theorem g_ended : ∀ x ∈ (["InvalidPeople", "InvalidNumber", "InvalidPlaces", "isinstance", "WrongValue", "ValueError", "WrongName", "NotPossible", "repr"] : List Str), (defScope s_ended).names.lookup x = some .globalImplicit := by decide +kernel
theorem ended_gives {X : Cx} {g : Addr} {cdg : Value} {q : Str} {CP CN CL : Addr} (T : Hx X.K X.mg CP CN CL) (h0 : ∀ f : Addr, (L2.start ["_law_act", "e", "_law_kinds", "_law_is_one"] [V.ref f])[0]? = some (some (V.ref f)))
    (hun0 : X.A.units + 220 < cLine) (hgd0 : X.A.guards = some []) (hsm : ∃ o, X.K.lookup sysModules = some o) :
    LamX.GivesTo X ["_law_act", "e", "_law_kinds", "_law_is_one"] "_law_ended" (defScope s_ended) g cdg (defBody s_ended) "_law_act" q (TTe CP CN CL) := by
  intro f c' s H Q tl act hc h
  refine ⟨_, pss_one (ps_try_as3 (X := (cxOf C8.CX0 X.prog X.w X.K X.mg X.base ["_law_act", "e", "_law_kinds", "_law_is_one"] "_law_ended" (defScope s_ended) g cdg X.A X.stack s H C8.E0).nox) (i := 1) (n := "e")
      (tb := fun W D σ H => ∃ Ech : XK, (∀ cls d σ' H', σ'.length = 4 → Ech cls d H' → W cls d σ' H') ∧ tRet (tLst (tCons (tC (.str "gave")) (tCons (fun σZ HZ Q => σZ[0]? = some (some (.ref f)) ∧ HZ c' = some (LamX.CodeO c' q) ∧ tl Ech HZ Q) tNil))) D σ H)
      (ts := fun a cls d D σ HH => ∃ t : TS, (∀ (oe : Obj) (pn : List (Addr × Obj)), Zc cls d oe → (∃ vs, oe.data = .fields vs) →
        PSs ((cxOf C8.CX0 X.prog X.w X.K X.mg X.base ["_law_act", "e", "_law_kinds", "_law_is_one"] "_law_ended" (defScope s_ended) g cdg X.A X.stack s H C8.E0).nox.suite a ((a, oe) :: pn)) (suiteOf s_ended) t) ∧ t D σ HH)
      rfl rfl sc_ended.nd rfl (by rfl) (g_ended _ (.head _)) T.gp (g_ended _ (.tail _ (.head _))) T.gn (g_ended _ (.tail _ (.tail _ (.head _)))) T.gl
      (fun W pn xe tk _ => ?_) (fun a oe cls d pn hz hf => ?_)), ?_⟩
  · exact pss_ex fun Ech hW => pss_one (ps_ret (pe_lst (pa_cons pe_str (pa_cons (act _ pn xe Ech _ _ (takes_len tk) fun cls d σ' H' hE hl => hW cls d σ' H' hl hE) pa_nil))))
  · exact ⟨fun pins s' σ H' D I h' => by
      obtain ⟨t, ht, h'⟩ := h'
      exact (ht oe pn hz hf).run pins s' σ H' D I h'⟩
  · refine ⟨_, fun cls d σ' H' hl hE => ?_, h0 f, hc, h⟩
    obtain ⟨C, dd, v, dt, rfl, hC, rfl, hd, hv, hg, hQ⟩ := hE
    refine ⟨T.caught C hC, fun a ha => ⟨_, fun oe pn hz hf => by
      have hun : (((cxOf C8.CX0 X.prog X.w X.K X.mg X.base ["_law_act", "e", "_law_kinds", "_law_is_one"] "_law_ended" (defScope s_ended) g cdg X.A X.stack s H C8.E0).nox.suite a ((a, oe) :: pn)).A).units + 200 < cLine := by
        show X.A.units + 3 + 200 < cLine
        omega
      have hgd : (((cxOf C8.CX0 X.prog X.w X.K X.mg X.base ["_law_act", "e", "_law_kinds", "_law_is_one"] "_law_ended" (defScope s_ended) g cdg X.A X.stack s H C8.E0).nox.suite a ((a, oe) :: pn)).A).guards = some [] := hgd0
      exact pss_cons (ps_set (i := 2) sc_ended.nd rfl (.inl rfl) (pe_lst (pa_cons (pe_callB (call_isH (T.exa C hC) hz hf) (g_ended _ (.tail _ (.tail _ (.tail _ (.head _))))) T.isin (by decide +kernel) (pa_cons (pv 1) (pa_cons (pe_glob (v := .ref CP) (g_ended _ (.head _)) T.gp rfl) pa_nil))) (pa_cons (pe_callB (call_isH (T.exa C hC) hz hf) (g_ended _ (.tail _ (.tail _ (.tail _ (.head _))))) T.isin (by decide +kernel) (pa_cons (pv 1) (pa_cons (pe_glob (v := .ref CN) (g_ended _ (.tail _ (.head _))) T.gn rfl) pa_nil))) (pa_cons (pe_callB (call_isH (T.exa C hC) hz hf) (g_ended _ (.tail _ (.tail _ (.tail _ (.head _))))) T.isin (by decide +kernel) (pa_cons (pv 1) (pa_cons (pe_glob (v := .ref CL) (g_ended _ (.tail _ (.tail _ (.head _)))) T.gl rfl) pa_nil))) pa_nil)))))
        (pss_cons (ps_set (i := 3) sc_ended.nd rfl (.inl rfl) (pe_and (pe_callB (call_isH (T.exa C hC) hz hf) (g_ended _ (.tail _ (.tail _ (.tail _ (.head _))))) T.isin (by decide +kernel) (pa_cons (pv 1) (pa_cons (pe_glob (v := .ref (He.ga X.K "WrongValue")) (g_ended _ (.tail _ (.tail _ (.tail _ (.tail _ (.head _)))))) T.ws rfl) pa_nil))) (pe_and (pe_callB (call_isH (T.exa C hC) hz hf) (g_ended _ (.tail _ (.tail _ (.tail _ (.head _))))) T.isin (by decide +kernel) (pa_cons (pv 1) (pa_cons (pe_bltn (v := .ty "ValueError") (g_ended _ (.tail _ (.tail _ (.tail _ (.tail _ (.tail _ (.head _))))))) T.ve (by decide +kernel) rfl) pa_nil))) (pe_one (pe_cmpR op_eq (show PE _ _ (tBM X.K "list" (rCntB X.K) (tVar 2) (tCons (tC (.bl true)) tNil)) from pe_bm PySem.F.plainAttrs_list PySem.F.slot_list_count PySem.F.type_list_count mt_countB (pv 2) (pa_cons pe_bl pa_nil)) pe_int (nomark _))))))
        (pss_cons (ps_if (PW.pt (pw_or (pt_not (pt_val (pv 3))) (pw_or (pt_val (pe_callB (call_isH (T.exa C hC) hz hf) (g_ended _ (.tail _ (.tail _ (.tail _ (.head _))))) T.isin (by decide +kernel) (pa_cons (pv 1) (pa_cons (pe_glob (v := .ref (He.ga X.K "WrongName")) (g_ended _ (.tail _ (.tail _ (.tail _ (.tail _ (.tail _ (.tail _ (.head _)))))))) T.wn rfl) pa_nil)))) (pw_or1 (pt_val (pe_callB (call_isH (T.exa C hC) hz hf) (g_ended _ (.tail _ (.tail _ (.tail _ (.head _))))) T.isin (by decide +kernel) (pa_cons (pv 1) (pa_cons (pe_glob (v := .ref (He.ga X.K "NotPossible")) (g_ended _ (.tail _ (.tail _ (.tail _ (.tail _ (.tail _ (.tail _ (.tail _ (.head _))))))))) T.np rfl) pa_nil)))))))) (pss_one (ps_ret (pe_lst (pa_cons pe_str (pa_cons pe_str pa_nil))))) pss_nil)
        (pss_one (ps_ret (pe_lst (pa_cons (pe_ix (r := rIxL X.K) ix_list (pe_lst (pa_cons pe_str (pa_cons pe_str (pa_cons pe_str pa_nil)))) (show PE _ _ (tBM X.K "list" (rIndex X.K) (tVar 2) (tCons (tC (.bl true)) tNil)) from pe_bm PySem.F.plainAttrs_list PySem.F.slot_list_index PySem.F.type_list_index mt_index (pv 2) (pa_cons pe_bl pa_nil)) (fun _ _ => rfl))
          (pa_cons (pe_callB (call_reprU hun hgd hsm) (g_ended _ (.tail _ (.tail _ (.tail _ (.tail _ (.tail _ (.tail _ (.tail _ (.tail _ (.head _)))))))))) T.rep (by decide +kernel) (pa_cons (pe_xf ⟨(T.exa C hC).ga, (T.exa C hC).gg, (T.exa C hC).ex, (T.exa C hC).own⟩ (T.noF C hC) hz hf (pv 1)) pa_nil)) pa_nil))))))), ?_⟩⟩
    match σ', hl with
    | [y0, y1, y2, y3], _ =>
    have inP : CP = CP ∨ CP = CN ∨ CP = CL := .inl rfl
    have inN : CN = CP ∨ CN = CN ∨ CN = CL := .inr (.inl rfl)
    have inL : CL = CP ∨ CL = CN ∨ CL = CL := .inr (.inr rfl)
    have n1 := T.n1
    have n2 := T.n2
    have n3 := T.n3
    obtain ⟨b1, b2, b3, j, z, e1, e2, e3, ez, how⟩ : ∃ (b1 b2 b3 : Bool) (j : Nat) (z : Str), decide (C = CP) = b1 ∧ decide (C = CN) = b2 ∧ decide (C = CL) = b3 ∧ kindOf CP CN C = z ∧
        ((b1 = true ∧ b2 = false ∧ b3 = false ∧ j = 0 ∧ z = "people") ∨ (b1 = false ∧ b2 = true ∧ b3 = false ∧ j = 1 ∧ z = "number") ∨ (b1 = false ∧ b2 = false ∧ b3 = true ∧ j = 2 ∧ z = "places")) := by
      rcases hC with rfl | rfl | rfl
      · exact ⟨_, _, _, 0, _, decide_eq_true rfl, decide_eq_false n1, decide_eq_false n2, if_pos rfl, .inl ⟨rfl, rfl, rfl, rfl, rfl⟩⟩
      · exact ⟨_, _, _, 1, _, decide_eq_false n1.symm, decide_eq_true rfl, decide_eq_false n3, (if_neg n1.symm).trans (if_pos rfl), .inr (.inl ⟨rfl, rfl, rfl, rfl, rfl⟩)⟩
      · exact ⟨_, _, _, 2, _, decide_eq_false n2.symm, decide_eq_false n3.symm, decide_eq_true rfl, (if_neg n2.symm).trans (if_neg n3.symm), .inr (.inr ⟨rfl, rfl, rfl, rfl, rfl⟩)⟩
    have k1 := T.k C CP hC inP
    have k2 := T.k C CN hC inN
    have k3 := T.k C CL hC inL
    rw [e1] at k1
    rw [e2] at k2
    rw [e3] at k3
    rw [ez] at hQ
    refine ⟨_, rfl, _, _, _, _, rfl, hd, .own _, k1, _, rfl, _, _, _, _, rfl, hd, .own _, k2, _, rfl, _, _, _, _, rfl, hd, .own _, k3, by show 3 ≤ sizeLine; decide, fun p hp => ?_⟩
    have s1 : Same H' (upd H' p (.lst [V.bl b1, V.bl b2, V.bl b3])) := Same.new hp
    have one : [b1, b2, b3].count true = 1 := by
      rcases how with ⟨rfl, rfl, rfl, _⟩ | ⟨rfl, rfl, rfl, _⟩ | ⟨rfl, rfl, rfl, _⟩ <;> rfl
    have hat : atI [V.str "people", V.str "number", V.str "places"] ((j : Nat) : Int) = some (V.str z) := by
      rcases how with ⟨_, _, _, rfl, rfl⟩ | ⟨_, _, _, rfl, rfl⟩ | ⟨_, _, _, rfl, rfl⟩ <;> rfl
    have hd1 := s1 _ _ hd
    refine ⟨_, rfl, _, _, _, _, rfl, hd1, .own _, T.kw C hC, _, rfl, iteT ⟨_, rfl, _, _, _, _, rfl, hd1, .ty _, T.kv C hC, _, rfl, iteT ⟨_, rfl, .inl ⟨rfl, _, .inl (.inl upd_same)⟩, p, [b1, b2, b3], true, rfl, rfl, .inl (.inl upd_same), rfl, ?_⟩⟩⟩
    have e : decide (V.int (([b1, b2, b3].count true : Nat) : Int) = V.int 1) = true := by
      rw [one] <;> rfl
    rw [e]
    refine ⟨_, rfl, _, rfl, iteF ⟨_, rfl, _, _, _, _, rfl, hd1, .own _, T.kn C hC, _, rfl, iteF ⟨_, rfl, _, _, _, _, rfl, hd1, .own _, T.kp C hC, _, rfl, iteF ?_⟩⟩⟩
    refine ⟨by show 3 ≤ sizeLine; decide, fun p2 hp2 => ?_⟩
    have s2 := Same.new (o := .lst [V.str "people", V.str "number", V.str "places"]) hp2
    have hidx : ([b1, b2, b3].map V.bl)[j]? = some (V.bl true) ∧ ∀ (m : Nat) (z' : V), m < j → ([b1, b2, b3].map V.bl)[m]? = some z' → eqV z' (V.bl true) = false := by
      rcases how with ⟨rfl, rfl, rfl, rfl, _⟩ | ⟨rfl, rfl, rfl, rfl, _⟩ | ⟨rfl, rfl, rfl, rfl, _⟩
      · exact ⟨rfl, fun m z' h => absurd h (Nat.not_lt_zero m)⟩
      · refine ⟨rfl, fun m z' h hz => ?_⟩
        obtain rfl : m = 0 := by omega
        cases hz
        rfl
      · refine ⟨rfl, fun m z' h hz => ?_⟩
        have : m = 0 ∨ m = 1 := by omega
        rcases this with rfl | rfl <;> cases hz <;> rfl
    refine ⟨_, rfl, .inl ⟨rfl, _, .inl (.inl (s2 _ _ upd_same))⟩, p, _, V.bl true, j, V.bl true, rfl, rfl, .inl (.inl (s2 _ _ upd_same)), rfl, rfl, hidx.1, rfl, hidx.2, ?_⟩
    refine ⟨p2, _, _, _, rfl, rfl, .inl (.inl upd_same), hat, ?_⟩
    refine ⟨_, rfl, rfl, rfl, dd, _, v, rfl, s2 _ _ hd1, by simp [List.lookup], v, dt, rfl, (hv.mono s1).mono s2, hg.1, hg.2.1, hg.2.2, by show 2 ≤ sizeLine; decide, fun p3 hp3 => ?_⟩
    exact hQ p3 _ ((s1.trans s2).trans (Same.new hp3)) upd_same
end K40
namespace K40
open PySem PySem.Spec PyProof.Rows L2 Tc Evl
open LamX (tLam LamS lamCx lamEnv Tabs TabB ExtN)
section
variable {X : Cx} {T : List (Addr × Str)} {g c P CP CN CL : Addr} {fd : FuncData} {k : Nat} {params : Arguments} {body : Expr} {scope : Scope} {t : XK → TE} {p lpos pos : Pos}
/-- _law_ended(lambda: body) -/
theorem pe_ended (F : Fun X.K "_law_ended" "_law_ended" s_ended g fd) (gm : X.mg "_law_ended" = some (.ref g)) (TH : Hx X.K X.mg CP CN CL) (hgd : X.A.guards = some []) (hsm : ∃ o, X.K.lookup sysModules = some o) (hg : Gl X "_law_ended")
    (TB : TabB X.base X.mg c P) (hcode : X.env.code = .ref c) (hmT : (P, X.env.qual ++ "<lambda>") ∈ T) (hu : ∀ p ∈ T, p.1 = P → p.2 = X.env.qual ++ "<lambda>") (hr : Room (k + 2) X.A) (L : LamS X.env.scope scope) (hdef : defaultsOf params X.env = ([], []))
    (hbind : ∀ (q : Str) (cl : List (Str × Addr)) (pm cv ctv : Value), bindArgs (PySem.W.kla_fn "<lambda>" q params body scope cl pm cv ctv) ⟨[], []⟩ = pure [])
    (hbody : ∀ (A : Around) (outer : List Env) (s : Shared) (H : Hp) (E : XK) (f c' : Addr), Room k (A.deeper (lamEnv X scope s.heap.objs.size f c')) → PE (lamCx X A outer s H E scope f c') body (t E)) :
    PE X (.Call (.Name "_law_ended" p) [.Lambda params body scope lpos] [] pos) (tLam T (TTe CP CN CL) t) := by
  have kp := F.kp
  have hb : Binds X.K fd ["_law_act"] [] := F.binds fun _ _ _ _ _ _ us hl => match us, hl with | [_], _ => rfl
  obtain ⟨oc, od, kV, doc, pm, an, cdv, ct, osl, rfl, lk, hcd⟩ := F.ex
  exact LamX.pe_lamcall (Ng := ["_law_act", "e", "_law_kinds", "_law_is_one"]) (a := "_law_act") hg gm kp lk hcd hb sc_ended rfl (.inl (by decide +kernel)) (ended_gives TH (fun f => rfl) (by have := hr.un; omega) hgd hsm) TB hcode hmT hu hr L hdef hbind hbody
end
/-- what is due -/
def resD (k : Str) (d : PyData) : PyData := .list [.str k, .str d.shown]
def dueM (d1 d2 d4 : PyData) : PyData := if posB d1 = false then resD "people" d1 else if natB d2 = false then resD "number" d2 else if plB d4 = false then resD "places" d4 else .list []
def dueQ (d1 d2 d3 d4 : PyData) : PyData := if posB d1 = false then resD "people" d1 else if natB d2 = false then resD "number" d2 else if natB d3 = false ∨ fewB d1 d2 d3 = true then resD "number" d3 else if plB d4 = false then resD "places" d4 else .list []
theorem pos_split (d : PyData) : posB d = true ∨ (natB d = false ∧ posB d = false) ∨ (d = .int 0 ∧ posB d = false) := by
  cases d with
  | int i =>
    show decide (1 ≤ i) = true ∨ (decide (0 ≤ i) = false ∧ decide (1 ≤ i) = false) ∨ (PyData.int i = .int 0 ∧ decide (1 ≤ i) = false)
    by_cases c : 1 ≤ i
    · exact .inl (decide_eq_true c)
    · by_cases c0 : 0 ≤ i
      · exact .inr (.inr ⟨by rw [show i = 0 by omega], decide_eq_false c⟩)
      · exact .inr (.inl ⟨decide_eq_false c0, decide_eq_false c⟩)
  | _ => exact .inr (.inl ⟨rfl, rfl⟩)
section
variable {P : Program} {w : World} {K : PySem.W.Frag} {mg : Str → Option Value} {base : Heap}
theorem sc_due : FnScope ["_law_people", "_law_total", "_law_squares", "_law_places"] ["_law_people", "_law_total", "_law_squares", "_law_places"] (defScope s_due) := ⟨rfl, rfl, rfl, by decide +kernel, rfl, by decide +kernel, by decide +kernel⟩
theorem g_due : ∀ x ∈ (["_law_natural", "repr", "_law_whole"] : List Str), (defScope s_due).names.lookup x = some .globalImplicit := by decide +kernel
def spDue : Sp := fun vs H Q _ => ∃ (v1 v2 vq v4 : V) (d1 d2 d4 res : PyData), vs = [v1, v2, vq, v4] ∧ (Dv H v1 d1 ∧ Dv H v2 d2 ∧ Dv H v4 d4) ∧ (Good d1 ∧ Good d2 ∧ Good d4) ∧ (Bd d1 ∧ Bd d2) ∧
  ((vq = .non ∧ res = dueM d1 d2 d4) ∨ ∃ (b : Addr) (v3 : V) (d3 : PyData), vq = .ref b ∧ H b = some (.lst [v3]) ∧ Dv H v3 d3 ∧ Good d3 ∧ Bd d3 ∧ res = dueQ d1 d2 d3 d4) ∧
  ∀ (p : Addr) (H' : Hp), Same H H' → Dv H' (.ref p) res → Q (.ref p) H'
theorem ok_due {f : Addr} {fd : FuncData} (F : Fun K "_law_due" "_law_due" s_due f fd) (B : Bl mg) (SM : ∃ o, K.lookup sysModules = some o)
    (DN : CallO P w K mg base CX0 1 "_law_natural" ["_law_value"] (spB natB)) (DW : CallO P w K mg base CX0 1 "_law_whole" ["_law_value", "_law_least", "_law_most"] spWhole) :
    FnG P w K mg base CX0 2 f fd ["_law_people", "_law_total", "_law_squares", "_law_places"] spDue := by
  refine Fun.okG F sc_due (fun vs H Q E h => ?_) (fun cdv A outer s H vs Q E hr hgd h => ?_)
  · obtain ⟨v1, v2, vq, v4, d1, d2, d4, res, rfl, _⟩ := h
    rfl
  · obtain ⟨v1, v2, vq, v4, d1, d2, d4, res, rfl, ⟨h1, h2, h4⟩, ⟨g1, g2, g4⟩, ⟨b1, b2⟩, hq, hQ⟩ := h
    have hun : (A.deeper (envOfC "_law_due" (defScope s_due) s.heap.objs.size f cdv)).units + 200 < cLine := by
      have := hr.un
      omega
    refine ⟨_, (pss_cons (ps_if (PW.pt (pw_or (pt_not (pt_val (pe_doO DN (hr.mono (by decide)) (g_due _ (.head _)) pass0 (pa_cons (pv 0) pa_nil)))) (pw_or1 (pt_cmpR op_eq (pv 0) pe_int (nomark _))))) (pss_one (ps_ret (pe_lst (pa_cons pe_str (pa_cons (pe_callB (call_reprU hun hgd SM) (g_due _ (.tail _ (.head _))) B.repr (by decide +kernel) (pa_cons (pv 0) pa_nil)) pa_nil))))) pss_nil)
      (pss_cons (ps_if (pt_not (pt_val (pe_doO DN (hr.mono (by decide)) (g_due _ (.head _)) pass0 (pa_cons (pv 1) pa_nil)))) (pss_one (ps_ret (pe_lst (pa_cons pe_str (pa_cons (pe_callB (call_reprU hun hgd SM) (g_due _ (.tail _ (.head _))) B.repr (by decide +kernel) (pa_cons (pv 1) pa_nil)) pa_nil))))) pss_nil)
      (pss_cons (ps_if (PW.pt (pw_and (pt_cmpR op_notN (pv 2) pe_non (nomark _)) (pw_and1 (PW.pt (pw_or (pt_not (pt_val (pe_doO DN (hr.mono (by decide)) (g_due _ (.head _)) pass0 (pa_cons (pe_ix ix_list (pv 2) pe_int (fun _ _ => rfl)) pa_nil)))) (pw_or1 (pt_cmpR op_lt (pe_op op_mulW (pv 0) (pe_ix ix_list (pv 2) pe_int (fun _ _ => rfl))) (pe_op op_mulW (pv 1) (pv 1)) (nomark _)))))))) (pss_one (ps_ret (pe_lst (pa_cons pe_str (pa_cons (pe_callB (call_reprU hun hgd SM) (g_due _ (.tail _ (.head _))) B.repr (by decide +kernel) (pa_cons (pe_ix ix_list (pv 2) pe_int (fun _ _ => rfl)) pa_nil)) pa_nil))))) pss_nil)
      (pss_one (ps_ret (pe_ifExp (pt_val (pe_doO DW (hr.mono (by decide)) (g_due _ (.tail _ (.tail _ (.head _)))) pass0 (pa_cons (pv 3) (pa_cons pe_int (pa_cons pe_int pa_nil))))) (pe_lst pa_nil) (pe_lst (pa_cons pe_str (pa_cons (pe_callB (call_reprU hun hgd SM) (g_due _ (.tail _ (.head _))) B.repr (by decide +kernel) (pa_cons (pv 3) pa_nil)) pa_nil))))))))), ?_⟩
    -- a list with a word and a text
    have two : ∀ (k : Str) (d : PyData), res = resD k d → [V.str k, V.str d.shown].length ≤ sizeLine ∧ ∀ p, H p = none → Q (.ref p) (upd H p (.lst [V.str k, V.str d.shown])) := fun k d e =>
      ⟨by show 2 ≤ sizeLine; decide, fun p hp => hQ p _ (Same.new hp) (by rw [e]; exact .lst (.inl upd_same) (.cons (.str _) (.cons (.str _) .nil)))⟩
    have r1 : posB d1 = false → res = resD "people" d1 := fun e => by
      rcases hq with ⟨_, rfl⟩ | ⟨_, _, _, _, _, _, _, _, rfl⟩ <;> exact if_pos e
    have r2 : posB d1 = true → natB d2 = false → res = resD "number" d2 := fun e1 e => by
      rcases hq with ⟨_, rfl⟩ | ⟨_, _, _, _, _, _, _, _, rfl⟩ <;> exact (if_neg (by rw [e1]; decide)).trans (if_pos e)
    rcases pos_split d1 with e1 | ⟨e0, e1⟩ | ⟨rfl, e1⟩
    · obtain ⟨n, rfl, n1⟩ := pos_int e1
      cases h1
      refine ⟨_, rfl, _, _, rfl, .int n, _, rfl, ?_⟩
      rw [show natB (.int n) = true from decide_eq_true (by omega)]
      refine iteF ⟨_, rfl, rfl, _, rfl, ?_⟩
      rw [show decide (V.int n = V.int 0) = false from decide_eq_false (fun z => by have := V.int.inj z; omega)]
      refine iteF ?_
      refine ⟨_, rfl, v2, d2, rfl, h2, _, rfl, ?_⟩
      cases e2 : natB d2 with
      | false => exact iteT ⟨_, rfl, v2, d2, rfl, h2, g2.1, g2.2.1, g2.2.2, two _ _ (r2 e1 e2)⟩
      | true =>
        obtain ⟨t, rfl, t0⟩ := nat_int e2
        cases h2
        refine iteF ?_
        rcases hq with ⟨rfl, rr⟩ | ⟨b, v3, d3, rfl, hb, h3, g3, b3, rr⟩
        · refine ⟨_, rfl, rfl, _, rfl, iteF ?_⟩
          have er : res = if plB d4 = false then resD "places" d4 else .list [] := rr.trans ((if_neg (by rw [e1]; decide)).trans (if_neg (by rw [e2]; decide)))
          refine ⟨_, rfl, v4, d4, rfl, h4, _, rfl, ?_⟩
          cases e4 : plB d4 with
          | true =>
            refine iteT ⟨by show 0 ≤ sizeLine; decide, fun p hp => hQ p _ (Same.new hp) ?_⟩
            rw [er, if_neg (by rw [e4]; decide)]
            exact .lst (.inl upd_same) .nil
          | false => exact iteF ⟨_, rfl, v4, d4, rfl, h4, g4.1, g4.2.1, g4.2.2, two _ _ (er.trans (if_pos e4))⟩
        · refine ⟨_, rfl, rfl, _, rfl, iteT ?_⟩
          have er0 : res = if natB d3 = false ∨ fewB (.int n) (.int t) d3 = true then resD "number" d3 else if plB d4 = false then resD "places" d4 else .list [] := rr.trans ((if_neg (by rw [e1]; decide)).trans (if_neg (by rw [e2]; decide)))
          refine ⟨_, rfl, b, _, 0, _, rfl, rfl, .inl (.inl hb), rfl, v3, d3, rfl, h3, _, rfl, ?_⟩
          cases e3 : natB d3 with
          | false => exact iteT ⟨_, rfl, b, _, 0, _, rfl, rfl, .inl (.inl hb), rfl, v3, d3, rfl, h3, g3.1, g3.2.1, g3.2.2, two _ _ (er0.trans (if_pos (.inl e3)))⟩
          | true =>
            obtain ⟨s', rfl, s0⟩ := nat_int e3
            cases h3
            refine iteF ⟨_, rfl, _, rfl, b, _, 0, _, rfl, rfl, .inl (.inl hb), rfl, _, _, rfl, rfl, wide_mul (b1 n rfl) (b3 s' rfl) (by decide) (by decide) (by decide), _, rfl, _, rfl, _, _, rfl, rfl, wide_mul (b2 t rfl) (b2 t rfl) (by decide) (by decide) (by decide), _, _, rfl, rfl, _, rfl, ?_⟩
            by_cases c : n * s' < t * t
            · rw [decide_eq_true c]
              exact iteT ⟨_, rfl, b, _, 0, _, rfl, rfl, .inl (.inl hb), rfl, _, _, rfl, .int s', g3.1, g3.2.1, g3.2.2, two _ _ (er0.trans (if_pos (.inr (decide_eq_true c))))⟩
            rw [decide_eq_false c]
            refine iteF ?_
            have er : res = if plB d4 = false then resD "places" d4 else .list [] := er0.trans (if_neg (fun z => z.elim (fun z => by rw [e3] at z; cases z) (fun z => c (of_decide_eq_true z))))
            refine ⟨_, rfl, v4, d4, rfl, h4, _, rfl, ?_⟩
            cases e4 : plB d4 with
            | true =>
              refine iteT ⟨by show 0 ≤ sizeLine; decide, fun p hp => hQ p _ (Same.new hp) ?_⟩
              rw [er, if_neg (by rw [e4]; decide)]
              exact .lst (.inl upd_same) .nil
            | false => exact iteF ⟨_, rfl, v4, d4, rfl, h4, g4.1, g4.2.1, g4.2.2, two _ _ (er.trans (if_pos e4))⟩
    · refine ⟨_, rfl, v1, d1, rfl, h1, _, rfl, ?_⟩
      rw [e0]
      exact iteT ⟨_, rfl, v1, d1, rfl, h1, g1.1, g1.2.1, g1.2.2, two _ _ (r1 e1)⟩
    · cases h1
      refine ⟨_, rfl, _, _, rfl, .int 0, _, rfl, ?_⟩
      rw [show natB (.int 0) = true from rfl]
      refine iteF ⟨_, rfl, rfl, _, rfl, ?_⟩
      rw [show decide (V.int 0 = V.int 0) = true from rfl]
      exact iteT ⟨_, rfl, _, _, rfl, .int 0, g1.1, g1.2.1, g1.2.2, two _ _ (r1 e1)⟩
end
end K40
namespace K40
open PySem PySem.Spec PyProof.Rows L2 Tc Evl
open LamX (tLam LamS lamCx lamEnv Tabs TabB ExtN)
/-- all but what stands at two places -/
def hid (a b : Addr) (H : Hp) : Hp := fun c => if c = a ∨ c = b then none else H c
def Bt2 (a b : Addr) (H H' : Hp) : Prop := ∀ c o, H c = some o → c ≠ a → c ≠ b → H' c = some o
theorem hid_of {a b p : Addr} {H : Hp} {o : HO} (h : H p = some o) (n : p ≠ a) (m : p ≠ b) : hid a b H p = some o := (if_neg (fun z => z.elim n m)).trans h
theorem hid_split {a b p : Addr} {H : Hp} {o : HO} (h : hid a b H p = some o) : H p = some o ∧ p ≠ a ∧ p ≠ b := by
  by_cases z : p = a ∨ p = b
  · have q : hid a b H p = none := if_pos z
    rw [q] at h
    cases h
  · have q : hid a b H p = H p := if_neg z
    exact ⟨q.symm.trans h, fun e => z (.inl e), fun e => z (.inr e)⟩
theorem hid_bt {a b : Addr} {H H' : Hp} (s : Bt2 a b H H') : Same (hid a b H) (hid a b H') := fun c o h => by
  obtain ⟨h, n, m⟩ := hid_split h
  exact hid_of (s c o h n m) n m
theorem hid_in (a b : Addr) (H : Hp) : Same (hid a b H) H := fun c o h => (hid_split h).1
theorem Bt2.of {a b : Addr} {H H' : Hp} (s : But a H H') : Bt2 a b H H' := fun c o h n _ => s c o h n
theorem Bt2.same {a b : Addr} {H H' : Hp} (s : Same H H') : Bt2 a b H H' := fun c o h _ _ => s c o h
theorem Bt2.trans {a b : Addr} {H H1 H2 : Hp} (x : Bt2 a b H H1) (y : Bt2 a b H1 H2) : Bt2 a b H H2 := fun c o h n m => y c o (x c o h n m) n m
def Kp (a : Addr) (H H' : Hp) : Prop := ∀ b o, H b = some o → b ≠ a → (∀ ps, o ≠ .tbl ps) → H' b = some o
theorem Kp.same {a : Addr} {H H1 H2 : Hp} (k : Kp a H H1) (s : Same H1 H2) : Kp a H H2 := fun b o e n z => s _ _ (k b o e n z)
theorem Kp.but {a : Addr} {H H1 H2 : Hp} (k : Kp a H H1) (s : But a H1 H2) : Kp a H H2 := fun b o e n z => s _ _ (k b o e n z) n
theorem Kp.ext {a : Addr} {H H1 H2 : Hp} (k : Kp a H H1) (s : ExtN H1 H2) : Kp a H H2 := fun b o e n z => s _ _ (k b o e n z) z
theorem Kp.refl (a : Addr) (H : Hp) : Kp a H H := fun b o e n z => e
theorem pail_ext {H H' : Hp} {a : Addr} (h : Pail H a) (s : ExtN H H') : Pail H' a := by
  obtain ⟨m, o, h, r⟩ := h
  exact ⟨m, o, s _ _ h (fun _ z => nomatch z), r⟩
theorem tabs_but {T : List (Addr × Str)} {H H' : Hp} {a : Addr} (h : Tabs T H) (j : Pail H a) (k : But a H H') : Tabs T H' := by
  obtain ⟨m, o, e, _⟩ := j
  exact tabs_keep h e k
/-- values that are shown -/
structure Vl (d : PyData) : Prop where
  bd : Bd d
  good : Good d
  so : PyData.strOk d.shown = true
theorem so_nat (m : Nat) : PyData.strOk (Str.ofString (toString ((m : Nat) : Int))) = true := by
  unfold PyData.strOk
  rw [← Array.all_toList, PySem.W.KIN.signs_num, List.all_eq_true]
  intro c hc
  obtain ⟨ch, _, rfl⟩ := List.mem_map.mp hc
  refine decide_eq_true ?_
  have v := ch.valid
  show ch.val.toNat < 0x110000
  rcases v with v | ⟨_, v⟩
  · exact Nat.lt_trans v (by decide)
  · exact v
theorem log_lt {i : Int} {k : Nat} (h : i.natAbs < 2 ^ k) (hk : 0 < k) : i.natAbs.log2 < k := by
  by_cases e : i.natAbs = 0
  · rw [e]
    exact hk
  · exact (Nat.log2_lt e).mpr h
theorem vl_int {i : Int} (h0 : 0 ≤ i) (hb : i.natAbs < 2 ^ 250) : Vl (.int i) := by
  have lg := log_lt hb (by decide)
  refine ⟨fun j e => by cases e; exact hb, ⟨decide_eq_true (by omega), Nat.zero_le _, ?_⟩, ?_⟩
  · show (Str.ofString (toString i)).length ≤ sizeLine
    have t : i < 10 ^ 100 := by
      have : (2 : Nat) ^ 250 < 10 ^ 100 := by decide
      have z : ((10 ^ 100 : Nat) : Int) = (10 : Int) ^ 100 := by decide
      rw [← z]
      omega
    exact Nat.le_trans (PyProof.Rows.toString_length_le h0 (k := 100) (by decide) t) (by decide)
  · show PyData.strOk (Str.ofString (toString i)) = true
    rw [show i = ((i.toNat : Nat) : Int) from (Int.toNat_of_nonneg h0).symm]
    exact so_nat _
theorem vl_neg : Vl (.int (-1)) := ⟨fun j e => by cases e; decide, by decide +kernel, by decide +kernel⟩
theorem vl_none : Vl .none := ⟨(fun j e => nomatch e), by decide +kernel, by decide +kernel⟩
theorem vl_bl (b : Bool) : Vl (.bool b) := ⟨(fun j e => nomatch e), by cases b <;> decide +kernel, by cases b <;> decide +kernel⟩
theorem vl_one : Vl (.str "1") := ⟨(fun j e => nomatch e), by decide +kernel, by decide +kernel⟩
theorem vl_tup : Vl (.tuple [.int 1]) := ⟨(fun j e => nomatch e), by decide +kernel, by decide +kernel⟩
theorem vl_lst : Vl (.list []) := ⟨(fun j e => nomatch e), by decide +kernel, by decide +kernel⟩
/-- what is due, as data -/
def DueOk (res : PyData) : Prop := res = .list [] ∨ ∃ k x : Str, res = .list [.str k, .str x] ∧ PyData.strOk k = true ∧ PyData.strOk x = true
theorem res_ok {k : Str} {d : PyData} (hk : PyData.strOk k = true) (h : Vl d) : DueOk (resD k d) := .inr ⟨k, d.shown, rfl, hk, h.so⟩
theorem dueM_ok {d1 d2 d4 : PyData} (h1 : Vl d1) (h2 : Vl d2) (h4 : Vl d4) : DueOk (dueM d1 d2 d4) := by
  unfold dueM
  split
  · exact res_ok (by decide +kernel) h1
  split
  · exact res_ok (by decide +kernel) h2
  split
  · exact res_ok (by decide +kernel) h4
  · exact .inl rfl
theorem dueQ_ok {d1 d2 d3 d4 : PyData} (h1 : Vl d1) (h2 : Vl d2) (h3 : Vl d3) (h4 : Vl d4) : DueOk (dueQ d1 d2 d3 d4) := by
  unfold dueQ
  split
  · exact res_ok (by decide +kernel) h1
  split
  · exact res_ok (by decide +kernel) h2
  split
  · exact res_ok (by decide +kernel) h3
  split
  · exact res_ok (by decide +kernel) h4
  · exact .inl rfl
theorem DueOk.dp {K : PySem.W.Frag} {res : PyData} {H : Hp} {p : Addr} (h : DueOk res) (v : Dv H (.ref p) res) : Dp K H (.ref p) res := by
  rcases h with rfl | ⟨k, x, rfl, _⟩
  · cases v with
    | lst rd all =>
      cases all
      exact .lst (.inl rd) .nil
  · cases v with
    | lst rd all =>
      cases all with
      | cons a b =>
      cases b with
      | cons b c =>
      cases c
      cases a
      cases b
      exact .lst (.inl rd) (.cons (.str _) (.cons (.str _) .nil))
theorem DueOk.shaped {res : PyData} (h : DueOk res) : SeqAt.shaped res = true := by
  rcases h with rfl | ⟨k, x, rfl, hk, hx⟩
  · rfl
  · show ((PyData.strOk k && (PyData.strOk x && true)) && decide (max (0 : Nat) (max 0 0) + 1 ≤ 64)) = true
    rw [hk, hx] <;> rfl
theorem DueOk.self {res : PyData} (h : DueOk res) : PyData.eqv res res = true := by
  rcases h with rfl | ⟨k, x, rfl, _⟩
  · rfl
  · show ((k == k) && ((x == x) && true)) = true
    simp
theorem DueOk.nil {res : PyData} (h : DueOk res) : (res = .list [] ∧ PyData.eqv res (.list []) = true) ∨ (res ≠ .list [] ∧ PyData.eqv res (.list []) = false) := by
  rcases h with rfl | ⟨k, x, rfl, _⟩
  · exact .inl ⟨rfl, rfl⟩
  · exact .inr ⟨(fun z => nomatch z), rfl⟩
section
variable {T : List (Addr × Str)} {CP CN CL : Addr} {σ : L2.St} {H : Hp} {w1 w2 w3 w4 : V} {d1 d2 d3 d4 : PyData} {Q : VK} {t : XK → TE}
theorem kind_n (n1 : CP ≠ CN) : kindOf CP CN CN = "number" := (if_neg n1.symm).trans (if_pos rfl)
theorem kind_l (n2 : CP ≠ CL) (n3 : CN ≠ CL) : kindOf CP CN CL = "places" := (if_neg n2.symm).trans (if_neg n3.symm)
/-- an error, as the law wants it -/
theorem raised {H1 : Hp} {C : Addr} {v : V} {d res : PyData} {k : Str} (hT : Tabs T H1) (hC : C = CP ∨ C = CN ∨ C = CL) (hk : kindOf CP CN C = k) (hv : Dv H1 v d) (g : Good d) (e : res = resD k d) (q : ∀ p H', Same H1 H' → Tabs T H' → Dv H' (.ref p) res → Q (.ref p) H') :
    up C v H1 (fun cls d H' => ∃ (C dd : Addr) (v : V) (dt : PyData), cls = .ref C ∧ (C = CP ∨ C = CN ∨ C = CL) ∧ d = some dd ∧ H' dd = some (.xd [("given", v)]) ∧ Dv H' v dt ∧ Good dt ∧ ∀ p H2, Same H' H2 → H2 p = some (.lst [.str (kindOf CP CN C), .str dt.shown]) → Q (.ref p) H2) := by
  intro dd hdd
  have s := Same.new (o := .xd [("given", v)]) hdd
  refine ⟨C, dd, v, d, rfl, hC, rfl, upd_same, hv.mono s, g, fun p H2 s2 h2 => q p H2 (s.trans s2) (hT.ext (s.trans s2)) ?_⟩
  rw [hk] at h2
  rw [e]
  exact .lst (.inl h2) (.cons (.str _) (.cons (.str _) .nil))
theorem ended_tm (ht : ∀ E H' Q', spTM CP CN CL [w1, w2, w4] H' Q' E → t E σ H' Q') (n1 : CP ≠ CN) (n2 : CP ≠ CL) (n3 : CN ≠ CL) (h1 : Dv H w1 d1) (h2 : Dv H w2 d2) (h4 : Dv H w4 d4) (v1 : Vl d1) (v2 : Vl d2) (v4 : Vl d4)
    (no : dueM d1 d2 d4 ≠ .list []) (hT : Tabs T H) (q : ∀ p H', ExtN H H' → Tabs T H' → Dv H' (.ref p) (dueM d1 d2 d4) → Q (.ref p) H') : tLam T (TTe CP CN CL) t σ H Q := by
  refine ⟨hT, fun H1 e1 t1 => ?_⟩
  have fin : ∀ p H', Same H1 H' → Tabs T H' → Dv H' (.ref p) (dueM d1 d2 d4) → Q (.ref p) H' := fun p H' s t' h => q p H' (e1.trans (ExtN.of s)) t' h
  refine ht _ H1 _ ⟨w1, w2, w4, d1, d2, d4, rfl, ⟨h1.ext e1, h2.ext e1, h4.ext e1⟩, v1.bd, fun e => ?_, fun e1' e => ?_, fun e1' e2' e => ?_, fun n t p z1 z2 z3 y1 y2 y3 y4 => absurd ?_ no⟩
  · exact raised t1 (.inl rfl) (if_pos rfl) (h1.ext e1) v1.good (if_pos e) fin
  · exact raised t1 (.inr (.inl rfl)) (kind_n n1) (h2.ext e1) v2.good ((if_neg (by rw [e1']; decide)).trans (if_pos e)) fin
  · exact raised t1 (.inr (.inr rfl)) (kind_l n2 n3) (h4.ext e1) v4.good ((if_neg (by rw [e1']; decide)).trans ((if_neg (by rw [e2']; decide)).trans (if_pos e))) fin
  · subst z1 z2 z3
    have p1 : posB (.int n) = true := decide_eq_true y1
    have p2 : natB (.int t) = true := decide_eq_true y2
    have p3 : plB (.int p) = true := by
      show (decide (0 ≤ p) && decide (p < 3)) = true
      rw [decide_eq_true y3, decide_eq_true y4] <;> rfl
    exact (if_neg (by rw [p1]; decide)).trans ((if_neg (by rw [p2]; decide)).trans (if_neg (by rw [p3]; decide)))
theorem ended_ts (ht : ∀ E H' Q', spTS CP CN CL [w1, w2, w3, w4] H' Q' E → t E σ H' Q') (n1 : CP ≠ CN) (n2 : CP ≠ CL) (n3 : CN ≠ CL) (h1 : Dv H w1 d1) (h2 : Dv H w2 d2) (h3 : Dv H w3 d3) (h4 : Dv H w4 d4) (v1 : Vl d1) (v2 : Vl d2) (v3 : Vl d3) (v4 : Vl d4)
    (no : dueQ d1 d2 d3 d4 ≠ .list []) (hT : Tabs T H) (q : ∀ p H', ExtN H H' → Tabs T H' → Dv H' (.ref p) (dueQ d1 d2 d3 d4) → Q (.ref p) H') : tLam T (TTe CP CN CL) t σ H Q := by
  refine ⟨hT, fun H1 e1 t1 => ?_⟩
  have fin : ∀ p H', Same H1 H' → Tabs T H' → Dv H' (.ref p) (dueQ d1 d2 d3 d4) → Q (.ref p) H' := fun p H' s t' h => q p H' (e1.trans (ExtN.of s)) t' h
  refine ht _ H1 _ ⟨w1, w2, w3, w4, d1, d2, d3, d4, rfl, ⟨h1.ext e1, h2.ext e1, h3.ext e1, h4.ext e1⟩, ⟨v1.bd, v2.bd, v3.bd⟩, fun e => ?_, fun e1' e => ?_, fun e1' e2' e => ?_, fun e1' e2' e3' ef e => ?_, fun n t s p z1 z2 z3 z4 y1 y2 y3 yf y4 y5 => absurd ?_ no⟩
  · exact raised t1 (.inl rfl) (if_pos rfl) (h1.ext e1) v1.good (if_pos e) fin
  · exact raised t1 (.inr (.inl rfl)) (kind_n n1) (h2.ext e1) v2.good ((if_neg (by rw [e1']; decide)).trans (if_pos e)) fin
  · exact raised t1 (.inr (.inl rfl)) (kind_n n1) (h3.ext e1) v3.good ((if_neg (by rw [e1']; decide)).trans ((if_neg (by rw [e2']; decide)).trans (if_pos e))) fin
  · exact raised t1 (.inr (.inr rfl)) (kind_l n2 n3) (h4.ext e1) v4.good ((if_neg (by rw [e1']; decide)).trans ((if_neg (by rw [e2']; decide)).trans ((if_neg (by rw [e3', ef]; decide)).trans (if_pos e)))) fin
  · subst z1 z2 z3 z4
    have p1 : posB (.int n) = true := decide_eq_true y1
    have p2 : natB (.int t) = true := decide_eq_true y2
    have p3 : natB (.int s) = true := decide_eq_true y3
    have pf : fewB (.int n) (.int t) (.int s) = false := decide_eq_false (by omega)
    have p4 : plB (.int p) = true := by
      show (decide (0 ≤ p) && decide (p < 3)) = true
      rw [decide_eq_true y4, decide_eq_true y5] <;> rfl
    exact (if_neg (by rw [p1]; decide)).trans ((if_neg (by rw [p2]; decide)).trans ((if_neg (by rw [p3, pf]; decide)).trans (if_neg (by rw [p4]; decide))))
end
/-- squares, people, places, total: people, total, squares, places -/
def pmS {α : Type} : List α → List α
  | [s, n, p, t] => [n, t, s, p]
  | l => l
section
variable {P : Program} {w : World} {K : PySem.W.Frag} {mg : Str → Option Value} {base : Heap}
theorem sc_refused : FnScope ["_law_pail_here", "_law_people", "_law_total", "_law_squares", "_law_places", "_law_some", "_law_turn", "_law_odd", "_law_due_here", "_law_four", "_law_one", "_law_three", "_law_two"] ["_law_pail_here", "_law_people", "_law_total", "_law_squares", "_law_places"] (defScope s_refused) := ⟨rfl, rfl, rfl, by decide +kernel, rfl, by decide +kernel, by decide +kernel⟩
theorem g_refused : ∀ x ∈ (["range", "_law_sup", "_law_any", "_law_due", "_law_ended"] : List Str), (defScope s_refused).names.lookup x = some .globalImplicit := by decide +kernel
def spRef (T : List (Addr × Str)) : Sp := fun vs H Q _ => ∃ (a : Addr) (n t s p : Int), vs = [.ref a, .int n, .int t, .int s, .int p] ∧ Pail H a ∧ (Vl (.int n) ∧ Vl (.int t) ∧ Vl (.int s) ∧ Vl (.int p)) ∧ Tabs T H ∧
  ∀ H' : Hp, Tabs T H' → Pail H' a → Kp a H H' → Q (.bl true) H'
theorem ok_refused {f c Pt g CP CN CL : Addr} {fd fdH : FuncData} {T : List (Addr × Str)} (F : Fun K "_law_refused_right" "_law_refused_right" s_refused f fd) (hcode : fd.code = .ref c) (B : Bl mg) (SM : ∃ o, K.lookup sysModules = some o)
    (FH : Fun K "_law_ended" "_law_ended" s_ended g fdH) (gH : mg "_law_ended" = some (.ref g)) (TH : Hx K mg CP CN CL) (TB : TabB base mg c Pt)
    (hmT : (Pt, (envOfC "_law_refused_right" (defScope s_refused) 0 f (.ref c)).qual ++ "<lambda>") ∈ T) (hu : ∀ p ∈ T, p.1 = Pt → p.2 = (envOfC "_law_refused_right" (defScope s_refused) 0 f (.ref c)).qual ++ "<lambda>")
    (DS : CallO P w K mg base CX0 1 "_law_sup" ["_law_pail_here", "_law_many"] spSup) (DA : CallO P w K mg base CX0 2 "_law_any" ["_law_pail_here", "_law_some"] spAny)
    (DD : Call P w K mg base CX0 2 "_law_due" ["_law_people", "_law_total", "_law_squares", "_law_places"] spDue)
    (DTM : CallO P w K mg base (L2.CX P w) 5 "told_mean" ["people", "total", "places"] (spTM CP CN CL))
    (DTS : CallK P w K mg base (L2.CX P w) 5 "told_spread" ["people", "total", "squares", "places"] (spTS CP CN CL) ["squares", "people", "places", "total"] pmS) :
    FnG P w K mg base CX0 9 f fd ["_law_pail_here", "_law_people", "_law_total", "_law_squares", "_law_places"] (spRef T) := by
  refine Fun.okGC F hcode sc_refused (fun vs H Q E h => ?_) (fun A outer s H vs Q E hr hgd h => ?_)
  · obtain ⟨a, n, t, s, p, rfl, _⟩ := h
    rfl
  · obtain ⟨a, n, t, s', p, rfl, hj, ⟨vn, vt, vs', vp⟩, hT, hQ⟩ := h
    have hu8 : (A.deeper (envOfC "_law_refused_right" (defScope s_refused) s.heap.objs.size f (.ref c))).units + 64 < cLine := hr.units
    have lenS : ∀ us vs H Q E, spTS CP CN CL (pmS vs) H Q E → Vals vs us → us.length = 4 ∧ (pmS us).length = 4 := fun us vs H Q E h r => by
      obtain ⟨w1, w2, w3, w4, d1, d2, d3, d4, e, _⟩ := h
      have z : ∀ (l : List V), pmS l = [w1, w2, w3, w4] → l.length = 4 := fun l e => by
        unfold pmS at e
        split at e
        · rfl
        · rw [e] <;> rfl
      have y : ∀ (l : List Value), l.length = 4 → (pmS l).length = 4 := fun l h => match l, h with | [_, _, _, _], _ => rfl
      have x := r.length.symm.trans (z vs e)
      exact ⟨x, y us x⟩
    refine ⟨_, (pss_mid (ps_set (i := 5) sc_refused.nd rfl (.inl rfl) (pe_lst (pa_cons (pv 1) (pa_cons (pv 2) (pa_cons (pv 3) (pa_cons (pv 4) pa_nil))))))
      (pss_mid (ps_for PassesOwn.leaving rfl (pi_range1 (g_refused _ (.head _)) B.range (pa_cons (pe_op op_add pe_int (pe_doO DS (hr.mono (by decide)) (g_refused _ (.tail _ (.head _))) pass0 (pa_cons (pv 0) (pa_cons pe_int pa_nil)))) pa_nil)) (pg_name (i := 6) sc_refused.nd rfl (.inl rfl)) (pss_mid (ps_set (i := 7) sc_refused.nd rfl (.inl rfl) (pe_doO DA (hr.mono (by decide)) (g_refused _ (.tail _ (.tail _ (.head _)))) pass0 (pa_cons (pv 0) (pa_cons (pe_lst (pa_cons pe_int (pa_cons (pe_un un_neg pe_int) (pa_cons pe_bl (pa_cons pe_bl (pa_cons pe_non (pa_cons pe_str (pa_cons (pe_tup (pa_cons pe_int pa_nil)) (pa_cons (pe_lst pa_nil) (pa_cons pe_int (pa_cons pe_int pa_nil))))))))))) pa_nil)))) (pss_one (ps_asg (pv 7) (pg_sub (pv 5) (pe_doO DS (hr.mono (by decide)) (g_refused _ (.tail _ (.head _))) pass0 (pa_cons (pv 0) (pa_cons pe_int pa_nil))) set_list)))))
      (pss_mid (ps_asg (pv 5) (pg_unl (by rfl) (pgs_cons (pg_name (i := 10) sc_refused.nd rfl (.inr rfl)) (pgs_cons (pg_name (i := 12) sc_refused.nd rfl (.inr rfl)) (pgs_cons (pg_name (i := 11) sc_refused.nd rfl (.inr rfl)) (pgs_cons (pg_name (i := 9) sc_refused.nd rfl (.inr rfl)) pgs_nil))))))
      (pss_mid (ps_set (i := 8) sc_refused.nd rfl (.inl rfl) (pe_do DD (hr.mono (by decide)) hgd (g_refused _ (.tail _ (.tail _ (.tail _ (.head _))))) pass0 (pa_cons (pv 10) (pa_cons (pv 12) (pa_cons pe_non (pa_cons (pv 9) pa_nil))))))
      (pss_mid (ps_if (PW.pt (pw_and (pt_cmpR (op_neD hu8) (pv 8) (pe_lst pa_nil) (nomark _)) (pw_and1 (pt_cmpR (op_neD hu8) (pe_ended (k := 6) (t := fun E2 => tCall (spTM CP CN CL) [] E2 (tCons (tVar 10) (tCons (tVar 12) (tCons (tVar 9) tNil)))) FH gH TH hgd SM (g_refused _ (.tail _ (.tail _ (.tail _ (.tail _ (.head _)))))) TB rfl hmT hu (hr.mono (by decide)) (LamX.lamS_by (sc := defScope s_refused) (by decide +kernel)) rfl (fun _ _ _ _ _ => rfl) (fun A2 outer2 s2 H2 E2 f2 c2 hr2 => pe_doO DTM (hr2.mono (by decide)) (by rfl) (passes_call (takes_of rfl rfl rfl rfl) fun _ _ _ _ h => h) (pa_cons (pv 10) (pa_cons (pv 12) (pa_cons (pv 9) pa_nil))))) (pv 8) (nomark _))))) (pss_one (ps_ret pe_bl)) pss_nil)
      (pss_mid (ps_set (i := 8) sc_refused.nd rfl (.inl rfl) (pe_do DD (hr.mono (by decide)) hgd (g_refused _ (.tail _ (.tail _ (.tail _ (.head _))))) pass0 (pa_cons (pv 10) (pa_cons (pv 12) (pa_cons (pe_lst (pa_cons (pv 11) pa_nil)) (pa_cons (pv 9) pa_nil))))))
      (pss_one (ps_ret (pe_or (pe_cmpR (op_eqD hu8) (pv 8) (pe_lst pa_nil) (nomark _)) (pe_one (pe_cmpR (op_eqD hu8) (pe_ended (k := 6) (t := fun E2 => tCallK (spTS CP CN CL) pmS E2 (tCons (tVar 11) (tCons (tVar 10) (tCons (tVar 9) (tCons (tVar 12) tNil))))) FH gH TH hgd SM (g_refused _ (.tail _ (.tail _ (.tail _ (.tail _ (.head _)))))) TB rfl hmT hu (hr.mono (by decide)) (LamX.lamS_by (sc := defScope s_refused) (by decide +kernel)) rfl (fun _ _ _ _ _ => rfl) (fun A2 outer2 s2 H2 E2 f2 c2 hr2 => pe_doK DTS (hr2.mono (by decide)) (by rfl) (passes_call (takes_of rfl rfl rfl rfl) fun _ _ _ _ h => h) (pk_cons (pv 11) (pk_cons (pv 10) (pk_cons (pv 9) (pk_cons (pv 12) pk_nil)))) (hlen := lenS))) (pv 8) (nomark _)))))))))))), ?_⟩
    -- the four values
    obtain ⟨o0, ho0⟩ := pail_some hj
    refine ⟨fun σ' H' => ∃ S, σ' = [some (.ref a), some (.int n), some (.int t), some (.int s'), some (.int p), some (.ref S), none, none, none, none, none, none, none] ∧ H S = none ∧ Same H H' ∧ H' S = some (.lst [.int n, .int t, .int s', .int p]), ?_, ?_⟩
    · exact ⟨_, rfl, _, rfl, _, rfl, _, rfl, by show 4 ≤ sizeLine; decide, fun S hS => ⟨S, rfl, hS, Same.new hS, upd_same⟩⟩
    rintro _ H1 ⟨S, rfl, hS0, s1, hS1⟩
    have Sa : S ≠ a := fun z => by
      rw [z, ho0] at hS0
      cases hS0
    -- odd ones
    refine ⟨fun σ' H' => (Tabs T H' ∧ Pail H' a ∧ Kp a H H') ∧ ∃ (ws : List V) (x6 x7 : Option V), σ' = [some (.ref a), some (.int n), some (.int t), some (.int s'), some (.int p), some (.ref S), x6, x7, none, none, none, none, none] ∧ H' S = some (.lst ws) ∧ ws.length = 4 ∧ ∀ (i : Nat) (w : V), ws[i]? = some w → ∃ d, Dv (hid a S H') w d ∧ Vl d, ?_, ?_⟩
    · refine ⟨_, rfl, a, 2, rfl, pail_same hj s1, by decide, by decide, fun r H2 r0 r2 j2 b2 => ⟨_, _, rfl, rfl, ?_⟩⟩
      have hS2 := b2 _ _ hS1 Sa
      refine ⟨1 + r, rfl, by omega, by omega, for_range (lo := 0) (n := (1 + r).toNat) (fun _ σ' H' => (Tabs T H' ∧ Pail H' a ∧ Kp a H H') ∧ ∃ (ws : List V) (x6 x7 : Option V), σ' = [some (.ref a), some (.int n), some (.int t), some (.int s'), some (.int p), some (.ref S), x6, x7, none, none, none, none, none] ∧ H' S = some (.lst ws) ∧ ws.length = 4 ∧ ∀ (i : Nat) (w : V), ws[i]? = some w → ∃ d, Dv (hid a S H') w d ∧ Vl d)
        ⟨⟨tabs_but (hT.ext s1) (pail_same hj s1) b2, j2, ((Kp.refl a H).same s1).but b2⟩, _, none, none, rfl, hS2, rfl, ?_⟩ ?_ (fun σ' H' z => z)⟩
      · intro i w hw
        match i, hw with
        | 0, hw => cases hw; exact ⟨_, .int _, vn⟩
        | 1, hw => cases hw; exact ⟨_, .int _, vt⟩
        | 2, hw => cases hw; exact ⟨_, .int _, vs'⟩
        | 3, hw => cases hw; exact ⟨_, .int _, vp⟩
      rintro i _ H3 hi ⟨⟨t3, j3, k3⟩, ws, x6, x7, rfl, hS3, len, all⟩
      -- an odd one
      refine ⟨fun σ' H' => (Tabs T H' ∧ Pail H' a ∧ Kp a H H') ∧ ∃ (o : V), σ' = [some (.ref a), some (.int n), some (.int t), some (.int s'), some (.int p), some (.ref S), some (.int (0 + (i : Int))), some o, none, none, none, none, none] ∧ H' S = some (.lst ws) ∧ (∃ d, Dv (hid a S H') o d ∧ Vl d) ∧ ∀ (i : Nat) (w : V), ws[i]? = some w → ∃ d, Dv (hid a S H') w d ∧ Vl d, ?_, ?_⟩
      · obtain ⟨o3, ho3⟩ := pail_some j3
        refine ⟨_, rfl, _, rfl, by show 1 ≤ sizeLine; decide, fun q1 hq1 => ⟨by show 0 ≤ sizeLine; decide, fun q2 hq2 => ⟨by show 10 ≤ sizeLine; decide, fun m hm => ?_⟩⟩⟩
        have n1 := Same.new (o := .tup [V.int 1]) hq1
        have n2 := Same.new (o := .lst []) hq2
        have nm := Same.new (o := .lst [V.int 0, V.int (-1), V.bl true, V.bl false, V.non, V.str "1", V.ref q1, V.ref q2, V.int 3, V.int 1]) hm
        have h3m := n1.trans (n2.trans nm)
        have q1a : q1 ≠ a := (ne_of_none ho3 hq1).symm
        have q1S : q1 ≠ S := (ne_of_none hS3 hq1).symm
        have q2a : q2 ≠ a := (ne_of_none (n1 _ _ ho3) hq2).symm
        have q2S : q2 ≠ S := (ne_of_none (n1 _ _ hS3) hq2).symm
        refine ⟨a, m, _, rfl, pail_same j3 h3m, upd_same, (ne_of_none (n2 _ _ (n1 _ _ ho3)) hm).symm, by show 0 < 10; decide, by show 10 ≤ 1000; decide, fun v H4 hv j4 b4 => ?_⟩
        refine ⟨⟨tabs_but (t3.ext h3m) (pail_same j3 h3m) b4, j4, (k3.same h3m).but b4⟩, v, rfl, b4 _ _ (h3m _ _ hS3) Sa, ?_, fun i w hw => ?_⟩
        · have up1 : ∀ {d}, Dv (hid a S _) v d → Dv (hid a S H4) v d := fun h => h.mono (hid_bt (Bt2.of b4))
          simp only [List.mem_cons, List.not_mem_nil, or_false] at hv
          rcases hv with rfl | rfl | rfl | rfl | rfl | rfl | rfl | rfl | rfl | rfl
          · exact ⟨_, .int _, vl_int (by decide) (by decide)⟩
          · exact ⟨_, .int _, vl_neg⟩
          · exact ⟨_, .bl _, vl_bl _⟩
          · exact ⟨_, .bl _, vl_bl _⟩
          · exact ⟨_, .non, vl_none⟩
          · exact ⟨_, .str _, vl_one⟩
          · exact ⟨_, up1 (.tup (.inl (hid_of (nm _ _ (n2 _ _ upd_same)) q1a q1S)) (.cons (.int _) .nil)), vl_tup⟩
          · exact ⟨_, up1 (.lst (.inl (hid_of (nm _ _ upd_same) q2a q2S)) .nil), vl_lst⟩
          · exact ⟨_, .int _, vl_int (by decide) (by decide)⟩
          · exact ⟨_, .int _, vl_int (by decide) (by decide)⟩
        · obtain ⟨d, hd, vd⟩ := all i w hw
          exact ⟨d, hd.mono (hid_bt ((Bt2.same h3m).trans (Bt2.of b4))), vd⟩
      rintro _ H4 ⟨⟨t4, j4, k4⟩, o, rfl, hS4, ⟨d, hd, vd⟩, all4⟩
      refine ⟨_, rfl, _, rfl, _, rfl, a, 4, rfl, j4, by decide, by decide, fun r H5 r0 r4 j5 b5 => ?_⟩
      have hS5 := b5 _ _ hS4 Sa
      have jx : ixN ws.length r = some r.toNat := by
        rw [len]
        have : r = 0 ∨ r = 1 ∨ r = 2 ∨ r = 3 := by omega
        rcases this with rfl | rfl | rfl | rfl <;> rfl
      refine ⟨S, ws, r, r.toNat, rfl, rfl, hS5, jx, ?_⟩
      have b5S : Bt2 a S H4 (upd H5 S (.lst (ws.set r.toNat o))) := fun c o h n m => by
        rw [upd_ne m]
        exact b5 c o h n
      have kk : ∀ b o', H5 b = some o' → b ≠ S → upd H5 S (.lst (ws.set r.toNat o)) b = some o' := fun b o' z n => (upd_ne n).trans z
      have t5 := tabs_but t4 j4 b5
      have k5 := k4.but b5
      refine ⟨⟨tabs_keep t5 hS5 kk, ?_, fun b o' e n z => kk _ _ (k5 b o' e n z) (fun zb => by rw [zb, hS0] at e; cases e)⟩, _, _, _, rfl, upd_same, by rw [List.length_set]; exact len, fun i w hw => ?_⟩
      · obtain ⟨m', o', e, r'⟩ := j5
        exact ⟨m', o', kk _ _ e Sa.symm, r'⟩
      · rw [List.getElem?_set] at hw
        split at hw
        · split at hw
          · cases hw
            exact ⟨d, hd.mono (hid_bt b5S), vd⟩
          · cases hw
        · obtain ⟨d', hd', vd'⟩ := all4 i w hw
          exact ⟨d', hd'.mono (hid_bt b5S), vd'⟩
    rintro _ H2 ⟨⟨t2, j2, k2⟩, ws, x6, x7, rfl, hS2, len, all⟩
    obtain ⟨w1, w2, w3, w4, rfl⟩ : ∃ w1 w2 w3 w4, ws = [w1, w2, w3, w4] := match ws, len with | [w1, w2, w3, w4], _ => ⟨w1, w2, w3, w4, rfl⟩
    obtain ⟨d1, hd1, v1⟩ := all 0 w1 rfl
    obtain ⟨d2, hd2, v2⟩ := all 1 w2 rfl
    obtain ⟨d3, hd3, v3⟩ := all 2 w3 rfl
    obtain ⟨d4, hd4, v4⟩ := all 3 w4 rfl
    have h1 := hd1.mono (hid_in a S H2)
    have h2 := hd2.mono (hid_in a S H2)
    have h3 := hd3.mono (hid_in a S H2)
    have h4 := hd4.mono (hid_in a S H2)
    -- one, two, three, four
    refine ⟨fun σ' H' => H' = H2 ∧ σ' = [some (.ref a), some (.int n), some (.int t), some (.int s'), some (.int p), some (.ref S), x6, x7, none, some w4, some w1, some w3, some w2], ⟨_, rfl, S, _, rfl, .inl (.inl hS2), rfl, _, _, rfl, _, _, rfl, _, _, rfl, _, _, rfl, rfl, rfl, rfl⟩, ?_⟩
    rintro _ H2 ⟨rfl, rfl⟩
    -- due of the mean
    refine ⟨fun σ' H' => ∃ q, σ' = [some (.ref a), some (.int n), some (.int t), some (.int s'), some (.int p), some (.ref S), x6, x7, some (.ref q), some w4, some w1, some w3, some w2] ∧ Same H2 H' ∧ Dv H' (.ref q) (dueM d1 d2 d4), ?_, ?_⟩
    · exact ⟨_, rfl, _, rfl, _, rfl, w1, w2, .non, w4, d1, d2, d4, _, rfl, ⟨h1, h2, h4⟩, ⟨v1.good, v2.good, v4.good⟩, ⟨v1.bd, v2.bd⟩, .inl ⟨rfl, rfl⟩, fun q H' s hq => ⟨q, rfl, s, hq⟩⟩
    rintro _ H3 ⟨q, rfl, s3, hq⟩
    have ok := dueM_ok v1 v2 v4
    have t3 := t2.ext s3
    refine ⟨fun σ' H' => Tabs T H' ∧ ExtN H2 H' ∧ σ' = [some (.ref a), some (.int n), some (.int t), some (.int s'), some (.int p), some (.ref S), x6, x7, some (.ref q), some w4, some w1, some w3, some w2], ?_, ?_⟩
    · refine ⟨_, rfl, by show 0 ≤ sizeLine; decide, fun e he => ?_⟩
      have ne := Same.new (o := .lst []) he
      refine ⟨_, .list [], ok.dp (hq.mono ne), .lst (.inl (.inl upd_same)) .nil, ok.shaped, by decide, _, rfl, ?_⟩
      have x23 : ExtN H2 (upd H3 e (.lst [])) := (ExtN.of s3).trans (ExtN.of ne)
      rcases ok.nil with ⟨_, ev⟩ | ⟨no, ev⟩
      · rw [ev]
        exact iteF ⟨t3.ext ne, x23, rfl⟩
      · rw [ev]
        refine iteT (ended_tm (fun E H' Q' h => ⟨_, rfl, _, rfl, _, rfl, h⟩) TH.n1 TH.n2 TH.n3 (h1.ext x23) (h2.ext x23) (h4.ext x23) v1 v2 v4 no (t3.ext ne) fun r H' x t' hr' => ?_)
        refine ⟨_, rfl, _, _, ok.dp hr', ok.dp ((hq.mono ne).ext x), ok.shaped, ok.shaped, _, rfl, ?_⟩
        rw [ok.self]
        exact iteF ⟨t', x23.trans x, rfl⟩
    rintro _ H4 ⟨t4, x4, rfl⟩
    have g1 := h1.ext x4
    have g2 := h2.ext x4
    have g3 := h3.ext x4
    have g4 := h4.ext x4
    -- due of the spread
    refine ⟨fun σ' H' => ∃ q, σ' = [some (.ref a), some (.int n), some (.int t), some (.int s'), some (.int p), some (.ref S), x6, x7, some (.ref q), some w4, some w1, some w3, some w2] ∧ Same H4 H' ∧ Dv H' (.ref q) (dueQ d1 d2 d3 d4), ?_, ?_⟩
    · refine ⟨_, rfl, _, rfl, _, rfl, by show 1 ≤ sizeLine; decide, fun b hb => ?_⟩
      have nb := Same.new (o := .lst [w3]) hb
      exact ⟨_, rfl, w1, w2, .ref b, w4, d1, d2, d4, _, rfl, ⟨g1.mono nb, g2.mono nb, g4.mono nb⟩, ⟨v1.good, v2.good, v4.good⟩, ⟨v1.bd, v2.bd⟩, .inr ⟨b, w3, d3, rfl, upd_same, g3.mono nb, v3.good, v3.bd, rfl⟩, fun q H' s hq => ⟨q, rfl, nb.trans s, hq⟩⟩
    rintro _ H5 ⟨q5, rfl, s5, hq5⟩
    have ok5 := dueQ_ok v1 v2 v3 v4
    have t5 := t4.ext s5
    have x5 : ExtN H2 H5 := x4.trans (ExtN.of s5)
    have fin : ∀ H', ExtN H2 H' → Tabs T H' → Q (.bl true) H' := fun H' x t' => hQ H' t' (pail_ext j2 x) (k2.ext x)
    refine ⟨_, rfl, by show 0 ≤ sizeLine; decide, fun e he => ?_⟩
    have ne := Same.new (o := .lst []) he
    refine ⟨_, .list [], ok5.dp (hq5.mono ne), .lst (.inl (.inl upd_same)) .nil, ok5.shaped, by decide, _, rfl, ?_⟩
    have x6' : ExtN H2 (upd H5 e (.lst [])) := x5.trans (ExtN.of ne)
    rcases ok5.nil with ⟨_, ev⟩ | ⟨no, ev⟩
    · rw [ev]
      exact iteT (fin _ x6' (t5.ext ne))
    · rw [ev]
      refine iteF (ended_ts (fun E H' Q' h => ⟨_, rfl, _, rfl, _, rfl, _, rfl, h⟩) TH.n1 TH.n2 TH.n3 (h1.ext x6') (h2.ext x6') (h3.ext x6') (h4.ext x6') v1 v2 v3 v4 no (t5.ext ne) fun r H' x t' hr' => ?_)
      refine ⟨_, rfl, _, _, ok5.dp hr', ok5.dp ((hq5.mono ne).ext x), ok5.shaped, ok5.shaped, ?_⟩
      rw [ok5.self]
      exact fin _ (x6'.trans x) t'
end
end K40
namespace K40
open PySem PySem.Spec PyProof.Rows L2 Tc Evl
theorem near_next {a b : Int} (h : 0 < b) : 2 * b * nearI a b ≤ 2 * a + b ∧ 2 * a + b < 2 * b * (nearI a b + 1) := by
  unfold nearI
  have h2 : 0 < 2 * b := by omega
  refine ⟨?_, ?_⟩
  · exact Int.mul_ediv_self_le (by omega)
  · have z := Int.lt_mul_ediv_self_add (x := 2 * a + b) h2
    rw [Int.mul_add, Int.mul_one]
    exact z
theorem near_add {a b k : Int} (h : 0 < b) : nearI (a + k * b) b = nearI a b + k := by
  unfold nearI
  have e : 2 * (a + k * b) + b = (2 * a + b) + k * (2 * b) := by
    rw [Int.mul_add, ← Int.mul_assoc, Int.mul_comm 2 k, Int.mul_assoc]
    omega
  rw [e, Int.add_mul_ediv_right _ _ (by omega)]
theorem near_scale {a b c : Int} (hc : 0 < c) : nearI (c * a) (c * b) = nearI a b := by
  unfold nearI
  have e1 : 2 * (c * a) + c * b = c * (2 * a + b) := by
    rw [Int.mul_add, ← Int.mul_assoc, Int.mul_comm 2 c, Int.mul_assoc]
  have e2 : 2 * (c * b) = c * (2 * b) := by
    rw [← Int.mul_assoc, Int.mul_comm 2 c, Int.mul_assoc]
  rw [e1, e2, Int.mul_ediv_mul_of_pos _ _ hc]
theorem near_ge {a b : Int} (ha : 0 ≤ a) (h : 0 < b) : 0 ≤ nearI a b := Int.ediv_nonneg (by omega) (by omega)
theorem near_le {a b : Int} (ha : 0 ≤ a) (h : 0 < b) : nearI a b ≤ a + 1 := by
  have z : nearI a b < a + 2 := by
    unfold nearI
    refine Int.ediv_lt_of_lt_mul (by omega) ?_
    have hab : a * 1 ≤ a * b := Int.mul_le_mul_of_nonneg_left (by omega) ha
    have e : (a + 2) * (2 * b) = 2 * (a * b) + 4 * b := by
      rw [Int.add_mul, ← Int.mul_assoc, Int.mul_comm a 2, Int.mul_assoc]
      omega
    rw [e]
    omega
  omega
theorem mean_add {n t p : Int} (h : 0 < n) : meanI n (t + n) p = meanI n t p + timesI p := by
  unfold meanI
  rw [Int.mul_add]
  exact near_add h
theorem mean_two {n t p : Int} : meanI (2 * n) (2 * t) p = meanI n t p := by
  unfold meanI
  rw [← Int.mul_assoc, Int.mul_comm (timesI p) 2, Int.mul_assoc]
  exact near_scale (by decide)
theorem mean_half {t p : Int} : meanI (2 * timesI p) (2 * t + 1) p = t + 1 := by
  have tl := times_le p
  unfold meanI nearI
  generalize timesI p = T at *
  have e1 : 2 * (T * (2 * t + 1)) + 2 * T = (t + 1) * (2 * (2 * T)) := by
    rw [Int.mul_add, Int.add_mul, ← Int.mul_assoc T 2 t, Int.mul_comm T 2, Int.mul_assoc, Int.mul_comm t (2 * (2 * T)), Int.mul_assoc 2 (2 * T) t, Int.mul_assoc 2 T t]
    omega
  rw [e1, Int.mul_ediv_cancel _ (by omega)]
theorem spread_core {n t s : Int} : n * (s + 2 * t + n) - (t + n) * (t + n) = n * s - t * t := by
  rw [Int.mul_add, Int.mul_add, Int.add_mul, Int.mul_add, Int.mul_add, ← Int.mul_assoc n 2 t, Int.mul_comm n 2, Int.mul_assoc, Int.mul_comm t n]
  omega
theorem spread_add {n t s p : Int} : spreadI n (t + n) (s + 2 * t + n) p = spreadI n t s p := by
  unfold spreadI
  rw [spread_core]
theorem four (x y : Int) : (2 * x) * (2 * y) = 4 * (x * y) := by
  rw [Int.mul_assoc, ← Int.mul_assoc x 2 y, Int.mul_comm x 2, Int.mul_assoc]
  omega
theorem spread_two {n t s p : Int} : spreadI (2 * n) (2 * t) (2 * s) p = spreadI n t s p := by
  unfold spreadI
  rw [four, four, four, ← Int.mul_sub, ← Int.mul_assoc, Int.mul_comm (timesI p) 4, Int.mul_assoc]
  exact near_scale (by decide)
/-- the squares are enough -/
theorem sq_enough {n t r : Int} (hn : 0 < n) (hr : 0 ≤ r) : t * t ≤ n * ((t * t + n - 1) / n + r) := by
  have z := Int.lt_mul_ediv_self_add (x := t * t + n - 1) hn
  have m : 0 ≤ n * r := Int.mul_nonneg (by omega) hr
  rw [Int.mul_add]
  omega
/-- what stays within -/
structure Dim (n t s : Int) : Prop where
  n1 : 1 ≤ n
  n2 : n ≤ 10 ^ 26
  t0 : 0 ≤ t
  t2 : t ≤ 10 ^ 27
  s0 : 0 ≤ s
  s2 : s ≤ 10 ^ 55
  en : t * t ≤ n * s
theorem dim_of {n t r : Int} (n1 : 1 ≤ n) (n2 : n ≤ 10 ^ 26) (t0 : 0 ≤ t) (t2 : t ≤ 10 ^ 27) (r0 : 0 ≤ r) (r2 : r < 90) : Dim n t ((t * t + n - 1) / n + r) := by
  have tt : 0 ≤ t * t := Int.mul_nonneg t0 t0
  have t54 : t * t ≤ 10 ^ 27 * 10 ^ 27 := Int.mul_le_mul t2 t2 t0 (by decide)
  have q0 : 0 ≤ (t * t + n - 1) / n := Int.ediv_nonneg (by omega) (by omega)
  have q1 : (t * t + n - 1) / n ≤ t * t + n - 1 := Int.ediv_le_self _ (by omega)
  exact ⟨n1, n2, t0, t2, by omega, by omega, sq_enough (by omega) r0⟩
theorem bd_of {i : Int} (h0 : 0 ≤ i) (h : i ≤ 10 ^ 60) : i.natAbs < 2 ^ 250 := by
  have z : (10 ^ 60 : Int) < 2 ^ 250 := by decide
  have e : ((2 ^ 250 : Nat) : Int) = (2 : Int) ^ 250 := by decide
  omega
end K40
namespace K40
open PySem PySem.Spec PyProof.Rows L2 Tc Evl
open LamX (tLam LamS lamCx lamEnv Tabs TabB ExtN)
def Bt1 (g : Addr) (H H' : Hp) : Prop := ∀ b o, H b = some o → b ≠ g → H' b = some o
theorem pl_no {p : Int} (p0 : 0 ≤ p) (p1 : p < 3) : ¬ plB (.int p) = false := fun e => by
  have z : (decide (0 ≤ p) && decide (p < 3)) = false := e
  rw [decide_eq_true p0, decide_eq_true p1] at z
  cases z
theorem few_no {n t s : Int} (s0 : 0 ≤ s) (en : t * t ≤ n * s) : ¬ (natB (.int s) = false ∨ fewB (.int n) (.int t) (.int s) = true) := fun e => by
  rcases e with e | e
  · exact absurd (of_decide_eq_false e) (by omega)
  · exact absurd (of_decide_eq_true e) (by omega)
section
variable {P : Program} {w : World} {K : PySem.W.Frag} {mg : Str → Option Value} {base : Heap}
theorem sc_rg : FnScope ["_law_pail_here", "_law_turn", "_law_people", "_law_total", "_law_squares", "_law_places", "_law_whole_here", "_law_told", "_law_wide", "_law_top", "_law_more", "_law_named"] ["_law_pail_here"] (defScope s_right) := ⟨rfl, rfl, rfl, by decide +kernel, rfl, by decide +kernel, by decide +kernel⟩
theorem g_rg : ∀ x ∈ (["range", "_law_sup", "_law_any", "told_mean", "told_spread", "_law_is_next", "_law_refused_right"] : List Str), (defScope s_right).names.lookup x = some .globalImplicit := by decide +kernel
def spRg (T : List (Addr × Str)) : Sp := fun vs H Q _ => ∃ a : Addr, vs = [.ref a] ∧ Pail H a ∧ Tabs T H ∧ ∀ H' : Hp, Tabs T H' → Kp a H H' → Q (.bl true) H'
theorem ok_rg {f CP CN CL : Addr} {fd : FuncData} {T : List (Addr × Str)} (F : Fun K "_law_right" "_law_right" s_right f fd) (B : Bl mg)
    (DS : CallO P w K mg base CX0 1 "_law_sup" ["_law_pail_here", "_law_many"] spSup) (DA : CallO P w K mg base CX0 2 "_law_any" ["_law_pail_here", "_law_some"] spAny)
    (DX : CallO P w K mg base CX0 1 "_law_is_next" ["_law_told", "_law_top", "_law_bottom"] spNext)
    (DTM : CallO P w K mg base (L2.CX P w) 5 "told_mean" ["people", "total", "places"] (spTM CP CN CL)) (DTS : CallO P w K mg base (L2.CX P w) 5 "told_spread" ["people", "total", "squares", "places"] (spTS CP CN CL))
    (DTMK : CallK P w K mg base (L2.CX P w) 5 "told_mean" ["people", "total", "places"] (spTM CP CN CL) ["places", "total", "people"] List.reverse)
    (DTSK : CallK P w K mg base (L2.CX P w) 5 "told_spread" ["people", "total", "squares", "places"] (spTS CP CN CL) ["places", "squares", "total", "people"] List.reverse)
    (DR : Call P w K mg base CX0 9 "_law_refused_right" ["_law_pail_here", "_law_people", "_law_total", "_law_squares", "_law_places"] (spRef T)) :
    FnG P w K mg base CX0 10 f fd ["_law_pail_here"] (spRg T) := by
  refine Fun.okG F sc_rg (fun vs H Q E h => ?_) (fun cdv A outer s H vs Q E hr hgd h => ?_)
  · obtain ⟨a, rfl, _⟩ := h
    rfl
  · obtain ⟨a, rfl, hj, hT, hQ⟩ := h
    have hu8 : (A.deeper (envOfC "_law_right" (defScope s_right) s.heap.objs.size f cdv)).units + 64 < cLine := hr.units
    have lenM : ∀ us vs H Q E, spTM CP CN CL (List.reverse vs) H Q E → Vals vs us → us.length = 3 ∧ (List.reverse us).length = 3 := fun us vs H Q E h r => by
      obtain ⟨w1, w2, w3, d1, d2, d3, e, _⟩ := h
      have z : vs.length = 3 := by rw [← List.length_reverse, e] <;> rfl
      exact ⟨r.length.symm.trans z, by rw [List.length_reverse]; exact r.length.symm.trans z⟩
    have lenS : ∀ us vs H Q E, spTS CP CN CL (List.reverse vs) H Q E → Vals vs us → us.length = 4 ∧ (List.reverse us).length = 4 := fun us vs H Q E h r => by
      obtain ⟨w1, w2, w3, w4, d1, d2, d3, d4, e, _⟩ := h
      have z : vs.length = 4 := by rw [← List.length_reverse, e] <;> rfl
      exact ⟨r.length.symm.trans z, by rw [List.length_reverse]; exact r.length.symm.trans z⟩
    refine ⟨_, (pss_cons (ps_for PassesOwn.leaving rfl (pi_range1 (g_rg _ (.head _)) B.range (pa_cons pe_int pa_nil)) (pg_name (i := 1) sc_rg.nd rfl (.inl rfl)) (pss_mid (ps_set (i := 2) sc_rg.nd rfl (.inl rfl) (pe_op op_add pe_int (pe_doO DS (hr.mono (by decide)) (g_rg _ (.tail _ (.head _))) pass0 (pa_cons (pv 0) (pa_cons (pe_doO DA (hr.mono (by decide)) (g_rg _ (.tail _ (.tail _ (.head _)))) pass0 (pa_cons (pv 0) (pa_cons (pe_lst (pa_cons pe_int (pa_cons pe_int (pa_cons pe_int (pa_cons pe_int pa_nil))))) pa_nil))) pa_nil)))))
      (pss_mid (ps_set (i := 2) sc_rg.nd rfl (.inl rfl) (pe_op op_add (pe_op op_mulW (pv 2) (pe_doO DA (hr.mono (by decide)) (g_rg _ (.tail _ (.tail _ (.head _)))) pass0 (pa_cons (pv 0) (pa_cons (pe_lst (pa_cons pe_int (pa_cons pe_int (pa_cons pe_int (pa_cons (pe_op op_pow pe_int pe_int) (pa_cons (pe_op op_pow pe_int pe_int) pa_nil)))))) pa_nil)))) (pe_doO DS (hr.mono (by decide)) (g_rg _ (.tail _ (.head _))) pass0 (pa_cons (pv 0) (pa_cons pe_int pa_nil)))))
      (pss_mid (ps_set (i := 3) sc_rg.nd rfl (.inl rfl) (pe_op op_add (pe_op op_mulW (pv 2) (pe_doO DS (hr.mono (by decide)) (g_rg _ (.tail _ (.head _))) pass0 (pa_cons (pv 0) (pa_cons pe_int pa_nil)))) (pe_doO DS (hr.mono (by decide)) (g_rg _ (.tail _ (.head _))) pass0 (pa_cons (pv 0) (pa_cons (pv 2) pa_nil)))))
      (pss_mid (ps_set (i := 4) sc_rg.nd rfl (.inl rfl) (pe_op op_add (pe_op op_fdivW (pe_op op_sub (pe_op op_add (pe_op op_mulW (pv 3) (pv 3)) (pv 2)) pe_int) (pv 2)) (pe_doO DS (hr.mono (by decide)) (g_rg _ (.tail _ (.head _))) pass0 (pa_cons (pv 0) (pa_cons pe_int pa_nil)))))
      (pss_mid (ps_par (by rfl) sc_rg.nd (i := 5) (j := 6) rfl rfl (by decide) rfl rfl (pa_cons (pe_doO DS (hr.mono (by decide)) (g_rg _ (.tail _ (.head _))) pass0 (pa_cons (pv 0) (pa_cons pe_int pa_nil))) (pa_cons (pe_lst (pa_cons pe_int (pa_cons pe_int (pa_cons pe_int pa_nil)))) pa_nil)) (by rfl))
      (pss_mid (ps_par (by rfl) sc_rg.nd (i := 7) (j := 8) rfl rfl (by decide) rfl rfl (pa_cons (pe_doO DTM (hr.mono (by decide)) (g_rg _ (.tail _ (.tail _ (.tail _ (.head _))))) passL (pa_cons (pv 2) (pa_cons (pv 3) (pa_cons (pv 5) pa_nil)))) (pa_cons (pe_doO DTS (hr.mono (by decide)) (g_rg _ (.tail _ (.tail _ (.tail _ (.tail _ (.head _)))))) passL (pa_cons (pv 2) (pa_cons (pv 3) (pa_cons (pv 4) (pa_cons (pv 5) pa_nil))))) pa_nil)) (by rfl))
      (pss_mid (ps_set (i := 9) sc_rg.nd rfl (.inl rfl) (pe_op op_mul (pe_ix ix_list (pv 6) (pv 5) (fun _ _ => rfl)) (pe_op op_sub (pe_op op_mulW (pv 2) (pv 4)) (pe_op op_mulW (pv 3) (pv 3)))))
      (pss_mid (ps_if (PW.pt (pw_or (pt_not (pt_val (pe_doO DX (hr.mono (by decide)) (g_rg _ (.tail _ (.tail _ (.tail _ (.tail _ (.tail _ (.head _))))))) pass0 (pa_cons (pv 7) (pa_cons (pe_op op_mul (pe_ix ix_list (pv 6) (pv 5) (fun _ _ => rfl)) (pv 3)) (pa_cons (pv 2) pa_nil)))))) (pw_or1 (pt_not (pt_val (pe_doO DX (hr.mono (by decide)) (g_rg _ (.tail _ (.tail _ (.tail _ (.tail _ (.tail _ (.head _))))))) pass0 (pa_cons (pv 8) (pa_cons (pv 9) (pa_cons (pe_op op_mulW (pv 2) (pv 2)) pa_nil))))))))) (pss_one (ps_ret pe_bl)) pss_nil)
      (pss_mid (ps_set (i := 10) sc_rg.nd rfl (.inl rfl) (pe_op op_add (pe_op op_add (pv 4) (pe_op op_mul pe_int (pv 3))) (pv 2)))
      (pss_mid (ps_if (pt_cmpR op_ne (pe_doO DTM (hr.mono (by decide)) (g_rg _ (.tail _ (.tail _ (.tail _ (.head _))))) passL (pa_cons (pv 2) (pa_cons (pe_op op_add (pv 3) (pv 2)) (pa_cons (pv 5) pa_nil)))) (pe_op op_add (pv 7) (pe_ix ix_list (pv 6) (pv 5) (fun _ _ => rfl))) (nomark _)) (pss_one (ps_ret pe_bl)) pss_nil)
      (pss_mid (ps_if (pt_cmpR op_ne (pe_doO DTS (hr.mono (by decide)) (g_rg _ (.tail _ (.tail _ (.tail _ (.tail _ (.head _)))))) passL (pa_cons (pv 2) (pa_cons (pe_op op_add (pv 3) (pv 2)) (pa_cons (pv 10) (pa_cons (pv 5) pa_nil))))) (pv 8) (nomark _)) (pss_one (ps_ret pe_bl)) pss_nil)
      (pss_mid (ps_set (i := 11) sc_rg.nd rfl (.inl rfl) (pe_lst (pa_cons (pe_doK DTMK (hr.mono (by decide)) (g_rg _ (.tail _ (.tail _ (.tail _ (.head _))))) passL (pk_cons (pv 5) (pk_cons (pe_op op_mul pe_int (pv 3)) (pk_cons (pe_op op_mul pe_int (pv 2)) pk_nil))) (hlen := lenM)) pa_nil)))
      (pss_mid (ps_expr (pe_bm PySem.F.plainAttrs_list PySem.F.slot_list_append PySem.F.type_list_append mt_append (pv 11) (pa_cons (pe_doK DTSK (hr.mono (by decide)) (g_rg _ (.tail _ (.tail _ (.tail _ (.tail _ (.head _)))))) passL (pk_cons (pv 5) (pk_cons (pe_op op_mul pe_int (pv 4)) (pk_cons (pe_op op_mul pe_int (pv 3)) (pk_cons (pe_op op_mul pe_int (pv 2)) pk_nil)))) (hlen := lenS)) pa_nil)))
      (pss_mid (ps_if (PW.pt (pw_or (pt_cmpR (op_neD hu8) (pv 11) (pe_lst (pa_cons (pv 7) (pa_cons (pv 8) pa_nil))) (nomark _)) (pw_or1 (pt_cmpR op_ne (pe_doO DTM (hr.mono (by decide)) (g_rg _ (.tail _ (.tail _ (.tail _ (.head _))))) passL (pa_cons (pe_op op_mul pe_int (pe_ix ix_list (pv 6) (pv 5) (fun _ _ => rfl))) (pa_cons (pe_op op_add (pe_op op_mul pe_int (pv 3)) pe_int) (pa_cons (pv 5) pa_nil)))) (pe_op op_add (pv 3) pe_int) (nomark _))))) (pss_one (ps_ret pe_bl)) pss_nil)
      (pss_one (ps_if (pt_not (pt_val (pe_do DR (hr.mono (by decide)) hgd (g_rg _ (.tail _ (.tail _ (.tail _ (.tail _ (.tail _ (.tail _ (.head _)))))))) pass0 (pa_cons (pv 0) (pa_cons (pv 2) (pa_cons (pv 3) (pa_cons (pv 4) (pa_cons (pv 5) pa_nil)))))))) (pss_one (ps_ret pe_bl)) pss_nil)))))))))))))))))
      (pss_one (ps_ret pe_bl))), ?_⟩
    refine s_forR1 (n := 6) (ea_cons ev_c ea_nil) (by decide) (fun _ σ' H' => (Tabs T H' ∧ Pail H' a ∧ Kp a H H') ∧ ∃ x1 x2 x3 x4 x5 x6 x7 x8 x9 x10 x11, σ' = [some (.ref a), x1, x2, x3, x4, x5, x6, x7, x8, x9, x10, x11])
      (fun H2 e => ⟨⟨hT.ext e, pail_same hj e, (Kp.refl a H).same e⟩, none, none, none, none, none, none, none, none, none, none, none, rfl⟩) ?_ (fun σ' H' p => hQ H' p.1.1 p.1.2.2)
    rintro i _ H1 hi ⟨⟨t1, j1, k1⟩, x1, x2, x3, x4, x5, x6, x7, x8, x9, x10, x11, rfl⟩
    -- people, few
    refine ⟨fun σ' H' => (Tabs T H' ∧ Pail H' a ∧ Kp a H H') ∧ ∃ n : Int, σ' = [some (.ref a), some (.int (i : Int)), some (.int n), x3, x4, x5, x6, x7, x8, x9, x10, x11] ∧ 1 ≤ n ∧ n ≤ 40, ?_, ?_⟩
    · obtain ⟨o1, ho1⟩ := pail_some j1
      refine ⟨_, rfl, _, rfl, by show 4 ≤ sizeLine; decide, fun m hm => ?_⟩
      have s1 := Same.new (o := .lst [V.int 3, V.int 6, V.int 12, V.int 40]) hm
      refine ⟨a, m, _, rfl, pail_same j1 s1, upd_same, (ne_of_none ho1 hm).symm, by show 0 < 4; decide, by show 4 ≤ 1000; decide, fun v H2 hv j2 b2 => ?_⟩
      obtain ⟨k, rfl, k0, k4⟩ : ∃ k : Int, v = .int k ∧ 0 < k ∧ k ≤ 40 := by
        simp only [List.mem_cons, List.not_mem_nil, or_false] at hv
        rcases hv with rfl | rfl | rfl | rfl <;> exact ⟨_, rfl, by decide, by decide⟩
      refine ⟨a, k, rfl, j2, k0, bd_mono (bd_of (by omega) (by omega)) (by decide), fun r H3 r0 rk j3 b3 => ⟨_, _, rfl, rfl, ⟨tabs_but (tabs_but (t1.ext s1) (pail_same j1 s1) b2) j2 b3, j3, ((k1.same s1).but b2).but b3⟩, 1 + r, rfl, by omega, by omega⟩⟩
    rintro _ H2 ⟨⟨t2, j2, k2⟩, n0, rfl, n01, n02⟩
    -- people
    refine ⟨fun σ' H' => (Tabs T H' ∧ Pail H' a ∧ Kp a H H') ∧ ∃ n : Int, σ' = [some (.ref a), some (.int (i : Int)), some (.int n), x3, x4, x5, x6, x7, x8, x9, x10, x11] ∧ 1 ≤ n ∧ n ≤ 10 ^ 26, ?_, ?_⟩
    · obtain ⟨o1, ho1⟩ := pail_some j2
      refine ⟨_, rfl, _, rfl, _, _, rfl, rfl, ⟨by decide, by decide, by decide⟩, _, _, rfl, rfl, ⟨by decide, by decide, by decide⟩, by show 5 ≤ sizeLine; decide, fun m hm => ?_⟩
      have s1 := Same.new (o := .lst [V.int 1, V.int 1, V.int 1, V.int (10 ^ 6), V.int (10 ^ 24)]) hm
      refine ⟨a, m, _, rfl, pail_same j2 s1, upd_same, (ne_of_none ho1 hm).symm, by show 0 < 5; decide, by show 5 ≤ 1000; decide, fun v H3 hv j3 b3 => ?_⟩
      obtain ⟨k, rfl, k0, k4⟩ : ∃ k : Int, v = .int k ∧ 1 ≤ k ∧ k ≤ 10 ^ 24 := by
        simp only [List.mem_cons, List.not_mem_nil, or_false] at hv
        rcases hv with rfl | rfl | rfl | rfl | rfl <;> exact ⟨_, rfl, by decide, by decide⟩
      have kb : k.natAbs < 2 ^ 250 := bd_of (by omega) (by omega)
      have nb : n0.natAbs < 2 ^ 250 := bd_of (by omega) (by omega)
      refine ⟨_, _, rfl, rfl, wide_mul nb kb (by decide) (by decide) (by decide), _, rfl, a, 2, rfl, j3, by decide, by decide, fun r H4 r0 rk j4 b4 => ⟨_, _, rfl, rfl, ⟨tabs_but (tabs_but (t2.ext s1) (pail_same j2 s1) b3) j3 b4, j4, ((k2.same s1).but b3).but b4⟩, n0 * k + r, rfl, ?_, ?_⟩⟩
      · have : 1 * 1 ≤ n0 * k := Int.mul_le_mul n01 k0 (by decide) (by omega)
        omega
      · have : n0 * k ≤ 40 * 10 ^ 24 := Int.mul_le_mul n02 k4 (by omega) (by decide)
        omega
    rintro _ H3 ⟨⟨t3, j3, k3⟩, n, rfl, n1, n2⟩
    have nb : n.natAbs < 2 ^ 250 := bd_of (by omega) (by omega)
    -- total
    refine ⟨fun σ' H' => (Tabs T H' ∧ Pail H' a ∧ Kp a H H') ∧ ∃ t : Int, σ' = [some (.ref a), some (.int (i : Int)), some (.int n), some (.int t), x4, x5, x6, x7, x8, x9, x10, x11] ∧ 0 ≤ t ∧ t ≤ 10 ^ 27, ?_, ?_⟩
    · refine ⟨_, rfl, _, rfl, a, 6, rfl, j3, by decide, by decide, fun r H4 r0 r6 j4 b4 => ?_⟩
      refine ⟨_, _, rfl, rfl, wide_mul nb (bd_of (i := r) (by omega) (by omega)) (by decide) (by decide) (by decide), _, rfl, _, rfl, a, n, rfl, j4, by omega, bd_mono nb (by decide), fun r' H5 r0' r1' j5 b5 => ⟨_, _, rfl, rfl, ⟨tabs_but (tabs_but t3 j3 b4) j4 b5, j5, (k3.but b4).but b5⟩, n * r + r', rfl, ?_, ?_⟩⟩
      · have : 0 ≤ n * r := Int.mul_nonneg (by omega) r0
        omega
      · have : n * r ≤ 10 ^ 26 * 5 := Int.mul_le_mul n2 (by omega) r0 (by decide)
        omega
    rintro _ H4 ⟨⟨t4, j4, k4⟩, t, rfl, tt0, tt2⟩
    have tb : t.natAbs < 2 ^ 250 := bd_of (by omega) (by omega)
    -- squares
    refine ⟨fun σ' H' => (Tabs T H' ∧ Pail H' a ∧ Kp a H H') ∧ ∃ s : Int, σ' = [some (.ref a), some (.int (i : Int)), some (.int n), some (.int t), some (.int s), x5, x6, x7, x8, x9, x10, x11] ∧ Dim n t s, ?_, ?_⟩
    · refine ⟨_, rfl, _, rfl, _, _, rfl, rfl, wide_mul tb tb (by decide) (by decide) (by decide), _, rfl, _, _, rfl, rfl, _, _, rfl, rfl, _, rfl, _, _, rfl, rfl, div_ok (by omega) (bd_mono nb (by decide)), _, rfl, a, 90, rfl, j4, by decide, by decide, fun r H5 r0 r9 j5 b5 => ?_⟩
      exact ⟨_, _, rfl, rfl, ⟨tabs_but t4 j4 b5, j5, k4.but b5⟩, _, rfl, dim_of n1 n2 tt0 tt2 r0 r9⟩
    rintro _ H5 ⟨⟨t5, j5, k5⟩, s', rfl, D⟩
    have sb : s'.natAbs < 2 ^ 250 := bd_of D.s0 (by have := D.s2; omega)
    have s0 := D.s0
    have s2 := D.s2
    have en := D.en
    -- places
    refine ⟨fun σ' H' => (Tabs T H' ∧ Pail H' a ∧ Kp a H H') ∧ ∃ (p : Int) (L : Addr), σ' = [some (.ref a), some (.int (i : Int)), some (.int n), some (.int t), some (.int s'), some (.int p), some (.ref L), x7, x8, x9, x10, x11] ∧ 0 ≤ p ∧ p < 3 ∧ H' L = some (.lst [.int 1, .int 10, .int 100]), ?_, ?_⟩
    · refine ⟨_, rfl, a, 3, rfl, j5, by decide, by decide, fun r H6 r0 r3 j6 b6 => ⟨by show 3 ≤ sizeLine; decide, fun L hL => ?_⟩⟩
      have sn := Same.new (o := .lst [V.int 1, V.int 10, V.int 100]) hL
      exact ⟨_, _, rfl, ⟨(tabs_but t5 j5 b6).ext sn, pail_same j6 sn, (k5.but b6).same sn⟩, r, L, rfl, r0, r3, upd_same⟩
    rintro _ H6 ⟨⟨t6, j6, k6⟩, p, L, rfl, p0, p3, hL⟩
    have tl := times_le p
    have hLs : SqL K H6 L [.int 1, .int 10, .int 100] := .inl (.inl hL)
    -- told
    refine ⟨fun σ' H' => H' = H6 ∧ σ' = [some (.ref a), some (.int (i : Int)), some (.int n), some (.int t), some (.int s'), some (.int p), some (.ref L), some (.int (meanI n t p)), some (.int (spreadI n t s' p)), x9, x10, x11], ?_, ?_⟩
    · refine ⟨_, rfl, _, rfl, _, rfl, _, _, _, .int n, .int t, .int p, rfl, ⟨.int _, .int _, .int _⟩, (fun j e => by cases e; exact nb), fun e => absurd (of_decide_eq_false e) (by omega), fun _ e => absurd (of_decide_eq_false e) (by omega), fun _ _ e => absurd e (pl_no p0 p3), fun n' t' p' z1 z2 z3 _ _ _ _ => ?_⟩
      cases z1; cases z2; cases z3
      refine ⟨_, rfl, _, rfl, _, rfl, _, rfl, _, _, _, _, .int n, .int t, .int s', .int p, rfl, ⟨.int _, .int _, .int _, .int _⟩, ⟨(fun j e => by cases e; exact nb), (fun j e => by cases e; exact tb), (fun j e => by cases e; exact sb)⟩, fun e => absurd (of_decide_eq_false e) (by omega), fun _ e => absurd (of_decide_eq_false e) (by omega), fun _ _ e => absurd e (few_no (by omega) en), fun _ _ _ _ e => absurd e (pl_no p0 p3), fun n' t' s' p' z1 z2 z3 z4 _ _ _ _ _ _ => ?_⟩
      cases z1; cases z2; cases z3; cases z4
      exact ⟨_, _, rfl, rfl, rfl⟩
    rintro _ H6 ⟨rfl, rfl⟩
    -- top
    refine ⟨fun σ' H' => H' = H6 ∧ σ' = [some (.ref a), some (.int (i : Int)), some (.int n), some (.int t), some (.int s'), some (.int p), some (.ref L), some (.int (meanI n t p)), some (.int (spreadI n t s' p)), some (.int (timesI p * (n * s' - t * t))), x10, x11], ?_, ?_⟩
    · exact ⟨_, rfl, _, rfl, L, _, _, _, rfl, rfl, hLs, times_at p0 p3, _, rfl, _, rfl, _, _, rfl, rfl, wide_mul nb sb (by decide) (by decide) (by decide), _, rfl, _, rfl, _, _, rfl, rfl, wide_mul tb tb (by decide) (by decide) (by decide), _, _, rfl, rfl, _, _, rfl, rfl, .inl ⟨by omega, by omega⟩, rfl, rfl⟩
    rintro _ H6 ⟨rfl, rfl⟩
    -- both are next
    have nn0 : 0 < n * n := Int.mul_pos (by omega) (by omega)
    have t1' : timesI p * t ≤ 100 * 10 ^ 27 := Int.mul_le_mul tl.2 tt2 tt0 (by decide)
    have t0' : 0 ≤ timesI p * t := Int.mul_nonneg (by omega) tt0
    have tp0 : 0 ≤ timesI p * (n * s' - t * t) := Int.mul_nonneg (by omega) (by omega)
    have ns : n * s' ≤ 10 ^ 26 * 10 ^ 55 := Int.mul_le_mul n2 s2 s0 (by decide)
    have tq : 0 ≤ t * t := Int.mul_nonneg tt0 tt0
    have tp1 : timesI p * (n * s' - t * t) ≤ 100 * (10 ^ 26 * 10 ^ 55) := Int.mul_le_mul tl.2 (by omega) (by omega) (by decide)
    have mb : (meanI n t p).natAbs < 2 ^ 600 := bd_mono (bd_of (near_ge t0' (by omega)) (by have := near_le t0' (show 0 < n by omega); unfold meanI; omega)) (by decide)
    have wb : (spreadI n t s' p).natAbs < 2 ^ 600 := by
      have a1 := near_ge tp0 nn0
      have a2 := near_le tp0 nn0
      have z : (10 ^ 100 : Int) < 2 ^ 600 := by decide +kernel
      have e : ((2 ^ 600 : Nat) : Int) = (2 : Int) ^ 600 := by decide +kernel
      unfold spreadI
      omega
    refine ⟨fun σ' H' => H' = H6 ∧ σ' = [some (.ref a), some (.int (i : Int)), some (.int n), some (.int t), some (.int s'), some (.int p), some (.ref L), some (.int (meanI n t p)), some (.int (spreadI n t s' p)), some (.int (timesI p * (n * s' - t * t))), x10, x11], ?_, ?_⟩
    · refine ⟨_, rfl, _, rfl, _, rfl, L, _, _, _, rfl, rfl, hLs, times_at p0 p3, _, rfl, _, _, rfl, rfl, .inl ⟨by omega, by omega⟩, _, rfl, meanI n t p, timesI p * t, n, rfl, mb, bd_mono nb (by decide), _, rfl, ?_⟩
      have y : 2 * n * meanI n t p ≤ 2 * (timesI p * t) + n ∧ 2 * (timesI p * t) + n < 2 * n * (meanI n t p + 1) := near_next (a := timesI p * t) (show 0 < n by omega)
      have y1 : (decide (2 * n * meanI n t p ≤ 2 * (timesI p * t) + n) && decide (2 * (timesI p * t) + n < 2 * n * (meanI n t p + 1))) = true := by
        rw [decide_eq_true y.1, decide_eq_true y.2] <;> rfl
      rw [y1]
      refine iteF ⟨_, rfl, _, rfl, _, rfl, _, rfl, _, _, rfl, rfl, wide_mul nb nb (by decide) (by decide) (by decide), spreadI n t s' p, timesI p * (n * s' - t * t), n * n, rfl, wb, bd_mono (bd_mul nb nb) (by decide), _, rfl, ?_⟩
      have x : 2 * (n * n) * spreadI n t s' p ≤ 2 * (timesI p * (n * s' - t * t)) + n * n ∧ 2 * (timesI p * (n * s' - t * t)) + n * n < 2 * (n * n) * (spreadI n t s' p + 1) := near_next (a := timesI p * (n * s' - t * t)) nn0
      have x1 : (decide (2 * (n * n) * spreadI n t s' p ≤ 2 * (timesI p * (n * s' - t * t)) + n * n) && decide (2 * (timesI p * (n * s' - t * t)) + n * n < 2 * (n * n) * (spreadI n t s' p + 1))) = true := by
        rw [decide_eq_true x.1, decide_eq_true x.2] <;> rfl
      rw [x1]
      exact iteF ⟨rfl, rfl⟩
    rintro _ H6 ⟨rfl, rfl⟩
    -- one more for each
    refine ⟨fun σ' H' => H' = H6 ∧ σ' = [some (.ref a), some (.int (i : Int)), some (.int n), some (.int t), some (.int s'), some (.int p), some (.ref L), some (.int (meanI n t p)), some (.int (spreadI n t s' p)), some (.int (timesI p * (n * s' - t * t))), some (.int (s' + 2 * t + n)), x11], ?_, ?_⟩
    · exact ⟨_, rfl, _, rfl, _, _, rfl, rfl, .inl ⟨by decide, by decide⟩, _, _, rfl, rfl, _, rfl, _, _, rfl, rfl, rfl, rfl⟩
    rintro _ H6 ⟨rfl, rfl⟩
    refine ⟨fun σ' H' => H' = H6 ∧ σ' = [some (.ref a), some (.int (i : Int)), some (.int n), some (.int t), some (.int s'), some (.int p), some (.ref L), some (.int (meanI n t p)), some (.int (spreadI n t s' p)), some (.int (timesI p * (n * s' - t * t))), some (.int (s' + 2 * t + n)), x11], ?_, ?_⟩
    · refine ⟨_, rfl, _, rfl, _, rfl, _, _, rfl, rfl, _, rfl, _, _, _, .int n, .int (t + n), .int p, rfl, ⟨.int _, .int _, .int _⟩, (fun j e => by cases e; exact nb), fun e => absurd (of_decide_eq_false e) (by omega), fun _ e => absurd (of_decide_eq_false e) (by omega), fun _ _ e => absurd e (pl_no p0 p3), fun n' t' p' z1 z2 z3 _ _ _ _ => ?_⟩
      cases z1; cases z2; cases z3
      refine ⟨_, rfl, _, rfl, _, rfl, L, _, _, _, rfl, rfl, hLs, times_at p0 p3, _, _, rfl, rfl, rfl, _, rfl, ?_⟩
      rw [mean_add (by omega), show decide (V.int (meanI n t p + timesI p) = V.int (meanI n t p + timesI p)) = true from decide_eq_true rfl]
      exact iteF ⟨rfl, rfl⟩
    rintro _ H6 ⟨rfl, rfl⟩
    have core := spread_core (n := n) (t := t) (s := s')
    refine ⟨fun σ' H' => H' = H6 ∧ σ' = [some (.ref a), some (.int (i : Int)), some (.int n), some (.int t), some (.int s'), some (.int p), some (.ref L), some (.int (meanI n t p)), some (.int (spreadI n t s' p)), some (.int (timesI p * (n * s' - t * t))), some (.int (s' + 2 * t + n)), x11], ?_, ?_⟩
    · refine ⟨_, rfl, _, rfl, _, rfl, _, _, rfl, rfl, _, rfl, _, rfl, _, _, _, _, .int n, .int (t + n), .int (s' + 2 * t + n), .int p, rfl, ⟨.int _, .int _, .int _, .int _⟩, ⟨(fun j e => by cases e; exact nb), (fun j e => by cases e; exact (bd_of (by omega) (by omega))), (fun j e => by cases e; exact (bd_of (by omega) (by omega)))⟩, fun e => absurd (of_decide_eq_false e) (by omega), fun _ e => absurd (of_decide_eq_false e) (by omega), fun _ _ e => absurd e (few_no (by omega) (by omega)), fun _ _ _ _ e => absurd e (pl_no p0 p3), fun n' t' s' p' z1 z2 z3 z4 _ _ _ _ _ _ => ?_⟩
      cases z1; cases z2; cases z3; cases z4
      refine ⟨_, rfl, rfl, _, rfl, ?_⟩
      rw [spread_add, show decide (V.int (spreadI n t s' p) = V.int (spreadI n t s' p)) = true from decide_eq_true rfl]
      exact iteF ⟨rfl, rfl⟩
    rintro _ H6 ⟨rfl, rfl⟩
    -- twice the people
    refine ⟨fun σ' H' => ∃ g, σ' = [some (.ref a), some (.int (i : Int)), some (.int n), some (.int t), some (.int s'), some (.int p), some (.ref L), some (.int (meanI n t p)), some (.int (spreadI n t s' p)), some (.int (timesI p * (n * s' - t * t))), some (.int (s' + 2 * t + n)), some (.ref g)] ∧ Same H6 H' ∧ H6 g = none ∧ H' g = some (.lst [.int (meanI n t p)]), ?_, ?_⟩
    · refine ⟨_, rfl, _, rfl, _, _, rfl, rfl, .inl ⟨by decide, by decide⟩, _, rfl, _, _, rfl, rfl, .inl ⟨by decide, by decide⟩, _, _, _, .int (2 * n), .int (2 * t), .int p, rfl, ⟨.int _, .int _, .int _⟩, (fun j e => by cases e; exact (bd_of (by omega) (by omega))), fun e => absurd (of_decide_eq_false e) (by omega), fun _ e => absurd (of_decide_eq_false e) (by omega), fun _ _ e => absurd e (pl_no p0 p3), fun n' t' p' z1 z2 z3 _ _ _ _ => ?_⟩
      cases z1; cases z2; cases z3
      rw [mean_two]
      exact ⟨by show 1 ≤ sizeLine; decide, fun g hg => ⟨g, rfl, Same.new hg, hg, upd_same⟩⟩
    rintro _ H7 ⟨g, rfl, s7, hg6, hg⟩
    refine ⟨fun σ' H' => σ' = [some (.ref a), some (.int (i : Int)), some (.int n), some (.int t), some (.int s'), some (.int p), some (.ref L), some (.int (meanI n t p)), some (.int (spreadI n t s' p)), some (.int (timesI p * (n * s' - t * t))), some (.int (s' + 2 * t + n)), some (.ref g)] ∧ Bt1 g H7 H' ∧ H' g = some (.lst [.int (meanI n t p), .int (spreadI n t s' p)]), ?_, ?_⟩
    · refine ⟨_, rfl, .inl ⟨rfl, _, .inl (.inl hg)⟩, ?_⟩
      have e4 : 2 * t * (2 * t) ≤ 2 * n * (2 * s') := by
        rw [four, four]
        omega
      refine ⟨_, rfl, _, rfl, _, _, rfl, rfl, .inl ⟨by decide, by decide⟩, _, rfl, _, _, rfl, rfl, .inl ⟨by decide, by decide⟩, _, rfl, _, _, rfl, rfl, .inl ⟨by decide, by decide⟩, _, _, _, _, .int (2 * n), .int (2 * t), .int (2 * s'), .int p, rfl, ⟨.int _, .int _, .int _, .int _⟩, ⟨(fun j e => by cases e; exact (bd_of (by omega) (by omega))), (fun j e => by cases e; exact (bd_of (by omega) (by omega))), (fun j e => by cases e; exact (bd_of (by omega) (by omega)))⟩, fun e => absurd (of_decide_eq_false e) (by omega), fun _ e => absurd (of_decide_eq_false e) (by omega), fun _ _ e => absurd e (few_no (by omega) e4), fun _ _ _ _ e => absurd e (pl_no p0 p3), fun n' t' s' p' z1 z2 z3 z4 _ _ _ _ _ _ => ?_⟩
      cases z1; cases z2; cases z3; cases z4
      rw [spread_two]
      exact ⟨g, _, _, rfl, rfl, hg, by show 1 < sizeLine; decide, rfl, fun b o e n => (upd_ne n).trans e, upd_same⟩
    rintro _ H8 ⟨rfl, b8, hg8⟩
    have c8 : ∀ b o, H6 b = some o → H8 b = some o := fun b o e => b8 b o (s7 b o e) (ne_of_none e hg6)
    have hL8 : SqL K H8 L [.int 1, .int 10, .int 100] := .inl (.inl (c8 _ _ hL))
    refine ⟨fun σ' H' => Same H8 H' ∧ σ' = [some (.ref a), some (.int (i : Int)), some (.int n), some (.int t), some (.int s'), some (.int p), some (.ref L), some (.int (meanI n t p)), some (.int (spreadI n t s' p)), some (.int (timesI p * (n * s' - t * t))), some (.int (s' + 2 * t + n)), some (.ref g)], ?_, ?_⟩
    · refine ⟨_, rfl, _, rfl, _, rfl, by show 2 ≤ sizeLine; decide, fun e he => ?_⟩
      have ne := Same.new (o := .lst [V.int (meanI n t p), V.int (spreadI n t s' p)]) he
      refine ⟨.list [.int (meanI n t p), .int (spreadI n t s' p)], .list [.int (meanI n t p), .int (spreadI n t s' p)], .lst (.inl (.inl (ne _ _ hg8))) (.cons (.int _) (.cons (.int _) .nil)), .lst (.inl (.inl upd_same)) (.cons (.int _) (.cons (.int _) .nil)), rfl, rfl, _, rfl, ?_⟩
      have ev : PyData.eqv (.list [.int (meanI n t p), .int (spreadI n t s' p)]) (.list [.int (meanI n t p), .int (spreadI n t s' p)]) = true := by
        show ((meanI n t p == meanI n t p) && ((spreadI n t s' p == spreadI n t s' p) && true)) = true
        simp
      rw [ev]
      refine iteF ⟨_, rfl, _, rfl, L, _, _, _, rfl, rfl, .inl (.inl (ne _ _ (c8 _ _ hL))), times_at p0 p3, _, _, rfl, rfl, .inl ⟨by decide, by decide⟩, _, rfl, _, _, rfl, rfl, .inl ⟨by decide, by decide⟩, _, _, rfl, rfl, _, rfl, _, _, _, .int (2 * timesI p), .int (2 * t + 1), .int p, rfl, ⟨.int _, .int _, .int _⟩, (fun j e => by cases e; exact (bd_of (by omega) (by omega))), fun e => absurd (of_decide_eq_false e) (by omega), fun _ e => absurd (of_decide_eq_false e) (by omega), fun _ _ e => absurd e (pl_no p0 p3), fun n' t' p' z1 z2 z3 _ _ _ _ => ?_⟩
      cases z1; cases z2; cases z3
      refine ⟨_, rfl, _, _, rfl, rfl, rfl, _, rfl, ?_⟩
      rw [mean_half, show decide (V.int (t + 1) = V.int (t + 1)) = true from decide_eq_true rfl]
      exact iteF ⟨ne, rfl⟩
    rintro _ H9 ⟨s9, rfl⟩
    -- what is refused
    have c9 : Same H6 H9 := fun b o e => s9 b o (c8 b o e)
    refine ⟨_, rfl, _, rfl, _, rfl, _, rfl, _, rfl, a, n, t, s', p, rfl, pail_same j6 c9, ⟨vl_int (by omega) nb, vl_int tt0 tb, vl_int s0 sb, vl_int p0 (bd_of p0 (by omega))⟩, t6.ext c9, fun H' t' j' k' => ⟨_, rfl, iteF ⟨⟨t', j', fun b o e n z => k' b o (c9 b o (k6 b o e n z)) n z⟩, _, _, _, _, _, _, _, _, _, _, _, rfl⟩⟩⟩
end
end K40
namespace K40
open PySem PySem.Spec PyProof.Rows L2 Tc Evl
open LamX (tLam LamS lamCx lamEnv Tabs TabB ExtN TabS)
section
variable {P : Program} {w : World} {K : PySem.W.Frag} {mg : Str → Option Value} {base : Heap}
theorem sc_law : FnScope ["_law_script", "_law_turn"] ["_law_script"] (defScope s_law) := ⟨rfl, rfl, rfl, by decide +kernel, rfl, by decide +kernel, by decide +kernel⟩
theorem g_law : ∀ x ∈ (["all", "range", "max", "min", "len"] : List Str), (defScope s_law).names.lookup x = some .globalImplicit := by decide +kernel
def spLaw (K : PySem.W.Frag) (T : List (Addr × Str)) : Sp := fun vs H Q _ => ∃ (a : Addr) (ns : List Int), vs = [.ref a] ∧ SqL K H a (ns.map V.int) ∧ ns.length ≤ 63 ∧ Tabs T H ∧ ∀ H', Q (.bl true) H'
theorem sq_but {H H' : Hp} {a p : Addr} {xs : List V} (h : SqL K H a xs) (hp : H p = none) (b : ∀ c o, H c = some o → c ≠ p → (∀ ps, o ≠ .tbl ps) → H' c = some o) : SqL K H' a xs := by
  rcases h with (h | ⟨o, h⟩) | h
  · exact .inl (.inl (b _ _ h (ne_of_none h hp) (fun _ z => nomatch z)))
  · exact .inl (.inr ⟨o, b _ _ h (ne_of_none h hp) (fun _ z => nomatch z)⟩)
  · exact .inr h
theorem sq_ext {H H' : Hp} {a : Addr} {xs : List V} (x : ExtN H H') (h : SqL K H a xs) : SqL K H' a xs := by
  rcases h with (h | ⟨o, h⟩) | h
  · exact .inl (.inl (x _ _ h (fun _ z => nomatch z)))
  · exact .inl (.inr ⟨o, x _ _ h (fun _ z => nomatch z)⟩)
  · exact .inr h
theorem ok_law {f : Addr} {fd : FuncData} {T : List (Addr × Str)} (F : Fun K "law" "law" s_law f fd) (B : Bl mg)
    (DJ : Call P w K mg base CX0 1 "_law_pail" ["_law_script", "_law_turn"] (spPail K)) (DR : Call P w K mg base CX0 10 "_law_right" ["_law_pail_here"] (spRg T)) :
    FnG P w K mg base CX0 11 f fd ["_law_script"] (spLaw K T) := by
  refine Fun.okG F sc_law (fun vs H Q E h => ?_) (fun cdv A outer s H vs Q E hr hgd h => ?_)
  · obtain ⟨a, ns, rfl, _⟩ := h
    rfl
  · obtain ⟨a, ns, rfl, hS, hl, hT, hQ⟩ := h
    refine ⟨_, pss_one (ps_ret (pe_callB (cr_all rfl) (g_law _ (.head _)) B.all (by decide +kernel) (pa_cons
      (pe_lc (own := [("_law_turn", 1)]) (g := gName 1) (te := tCall (spRg T) [] (fun _ _ _ => False) (tCons (tCall (spPail K) [] (fun _ _ _ => False) (tCons (tVar 0) (tCons (tVar 1) tNil))) tNil)) rfl sc_law.nd
        (pi_range1 (g_law _ (.tail _ (.head _))) B.range (pa_cons (pe_callB (call_max2 rfl) (g_law _ (.tail _ (.tail _ (.head _)))) B.max (by decide +kernel) (pa_cons pe_int (pa_cons
          (pe_callB (call_min2 rfl) (g_law _ (.tail _ (.tail _ (.tail _ (.head _))))) B.min (by decide +kernel) (pa_cons (pe_callB call_len (g_law _ (.tail _ (.tail _ (.tail _ (.tail _ (.head _)))))) B.len (by decide +kernel) (pa_cons (pv 0) pa_nil)) (pa_cons pe_int pa_nil))) pa_nil))) pa_nil))
        (blkOk_by (own := [("_law_turn", 1)]) (N := ["_law_script", "_law_turn"]) (sc := defScope s_law) (by decide +kernel)) (fun _ _ _ _ _ => pg_name (i := 1) sc_law.nd rfl (.inl rfl)) (fun _ _ _ _ _ => pts_nil)
        (fun _ _ _ _ _ => pe_do DR (hr.mono (by decide)) hgd (by rfl) pass0 (pa_cons (pe_do DJ (hr.mono (by decide)) hgd (by rfl) pass0 (pa_cons (pv 0) (pa_cons (pv 1) pa_nil))) pa_nil))) pa_nil))), ?_⟩
    obtain ⟨N, hN, N2, N5⟩ : ∃ N : Int, (if (if (5 : Int) < ((ns.map V.int).length : Nat) then (5 : Int) else ((ns.map V.int).length : Nat)) > 2 then (if (5 : Int) < ((ns.map V.int).length : Nat) then (5 : Int) else ((ns.map V.int).length : Nat)) else 2) = N ∧ 2 ≤ N ∧ N ≤ 5 := by
      refine ⟨_, rfl, ?_, ?_⟩
      · (repeat' split) <;> omega
      · (repeat' split) <;> omega
    refine ⟨_, rfl, _, _, rfl, .inl ⟨_, hS, rfl⟩, _, _, rfl, _, _, rfl, ?_⟩
    rw [hN]
    refine ⟨N, rfl, by omega, by omega, fun D hD => lc_range (lo := 0) (n := N.toNat) (fun i H' => ExtN H H' ∧ Tabs T H' ∧ H' D = some (.lst ((List.replicate i true).map V.bl)))
      ⟨ExtN.of (Same.new hD), hT.ext (Same.new hD), upd_same⟩ (fun i H' hi p => ?_) (fun H' p => ?_)⟩
    · obtain ⟨x, t, hd⟩ := p
      refine ⟨rfl, _, rfl, _, rfl, a, ns, i, by show [V.ref a, V.int (0 + (i : Int))] = _; rw [Int.zero_add], by omega, sq_ext x hS, hl, fun H3 p hp s3 hj => ⟨p, rfl, hj, t.ext s3, fun H4 t4 k4 => ?_⟩⟩
      have pD : D ≠ p := ne_of_none hd hp
      have hd4 := k4 _ _ (s3 _ _ hd) pD (fun _ z => nomatch z)
      have kk : ∀ b o, H4 b = some o → b ≠ D → upd H4 D (.lst ((List.replicate i true).map V.bl ++ [V.bl true])) b = some o := fun b o e n => (upd_ne n).trans e
      refine ⟨_, hd4, ?_, fun c o e nt => kk c o (k4 c o (s3 _ _ (x c o e nt)) (ne_of_none (x c o e nt) hp) nt) (fun z => by rw [z, hD] at e; cases e), tabs_keep t4 hd4 kk, ?_⟩
      · rw [List.length_map, List.length_replicate]
        exact Nat.lt_of_lt_of_le (show i < 5 by omega) (by decide)
      · rw [upd_same, List.replicate_succ', List.map_append] <;> rfl
    · obtain ⟨x, t, hd⟩ := p
      refine ⟨D, List.replicate N.toNat true, rfl, .inl (.inl hd), ?_⟩
      have e : (List.replicate N.toNat true).all id = true := by
        rw [List.all_eq_true]
        intro b hb
        exact (List.mem_replicate.mp hb).2
      rw [e]
      exact hQ H'
end
end K40
namespace K40
open PySem PySem.Spec PyProof.Rows L2 Tc Evl
open LamX (tLam LamS lamCx lamEnv Tabs TabB ExtN TabS)
theorem allB {α : Type} {l : List α} {p : α → Bool} (h : l.all p = true) {x : α} (hx : x ∈ l) : p x = true := List.all_eq_true.mp h x hx
theorem vals_rev : ∀ {vs : List V} {us : List Value}, Vals vs us → Vals vs.reverse us.reverse
  | _, _, .nil => .nil
  | _, _, .cons (a := a) (b := b) r h => by
    rw [List.reverse_cons, List.reverse_cons]
    exact Vals.append (vals_rev h) (.cons r .nil)
theorem vals_pm : ∀ {vs : List V} {us : List Value}, Vals vs us → Vals (pmS vs) (pmS us)
  | _, _, .nil => .nil
  | _, _, .cons a .nil => .cons a .nil
  | _, _, .cons a (.cons b .nil) => .cons a (.cons b .nil)
  | _, _, .cons a (.cons b (.cons c .nil)) => .cons a (.cons b (.cons c .nil))
  | _, _, .cons a (.cons b (.cons c (.cons d .nil))) => .cons b (.cons d (.cons a (.cons c .nil)))
  | _, _, .cons a (.cons b (.cons c (.cons d (.cons e r)))) => .cons a (.cons b (.cons c (.cons d (.cons e r))))
theorem beq_ref {a b : Addr} : ((Value.ref a) == (Value.ref b)) = decide (a = b) := by
  by_cases e : a = b
  · subst e
    simp
  · rw [decide_eq_false e]
    exact beq_eq_false_iff_ne.mpr fun z => e (Value.ref.inj z)
/-- the name of a lambda of the def -/
def lamN (x : Str) (st : Stmt) : Str := (envOfC x (defScope st) 0 0 (.ref 0)).qual ++ "<lambda>"
/-- the tables' list -/
def tabL (K : PySem.W.Frag) : List (Addr × Str) := [((He.cT K ("_law_refused_right", none)).2, lamN "_law_refused_right" s_refused)]
section
variable {K : PySem.W.Frag} {h : Heap} {mg : Str → Option Value}
structure Parts (K : PySem.W.Frag) : Prop where
  exk : ∀ e ∈ exs, exkB K e.2.2.1 e.1 e.2.1 = true
  exa : ∀ e ∈ alls, exaB K e.1 = true ∧ (He.Fa.glo e.1).ok K = true
  exs' : exsB K = true
  funs' : ∀ x ∈ funs, (He.Fa.glo x).ok K = true
  free : ∀ x ∈ frees, (He.Fa.free x).ok K = true
  tg : (He.Fa.glo "_TIMES").ok K = true
  tt : He.tupB K "_TIMES" [.int 1, .int 10, .int 100] = true
  mros' : mros K = true
  sm : (K.lookup sysModules).isSome = true
theorem partsF (c : SaysM F fn K) : Parts K := by
  obtain ⟨z1, z⟩ := He.ba c.fact
  obtain ⟨z2, z⟩ := He.ba z
  obtain ⟨z3, z⟩ := He.ba z
  obtain ⟨z4, z⟩ := He.ba z
  obtain ⟨z5, z⟩ := He.ba z
  obtain ⟨z6, z⟩ := He.ba z
  obtain ⟨z7, z⟩ := He.ba z
  obtain ⟨z8, z9⟩ := He.ba z
  exact ⟨fun e he => allB z1 he, fun e he => He.ba (allB z2 he), z3, fun x hx => allB z4 hx, fun x hx => allB z5 hx, z6, z7, z8, z9⟩
theorem mro_ok {x : Str} {l : List Value} (h : mroB K x l = true) : (∃ cd, PySem.W.clsIn K (He.ga K x) = some cd ∧ cd.mro = l) ∧ PySem.W.typeIn K (.ref (He.ga K x)) = some (.type "type") := by
  obtain ⟨z1, z2⟩ := He.ba h
  refine ⟨?_, of_decide_eq_true z2⟩
  cases w : PySem.W.clsIn K (He.ga K x) with
  | none =>
    rw [w] at z1
    cases z1
  | some cd =>
    rw [w] at z1
    exact ⟨cd, rfl, of_decide_eq_true z1⟩
theorem sub_ok {x : Str} {v0 : Value} {l : List Value} (h : mroB K x (v0 :: l) = true) (v : Value) : PySem.W.subIn K (.ref (He.ga K x)) v = some ((v0 :: l).contains v) := by
  obtain ⟨⟨cd, hc, hm⟩, _⟩ := mro_ok h
  show (PySem.W.clsIn K (He.ga K x)).bind _ = _
  rw [hc]
  show (if cd.mro.isEmpty then none else some (cd.mro.contains v)) = _
  rw [hm] <;> rfl
theorem kit_ok {x y : Str} {v0 w0 : Value} {l m : List Value} (h : mroB K x (v0 :: l) = true) (g : mroB K y (w0 :: m) = true) : PySem.W.kitCls K (.ref (He.ga K x)) (.ref (He.ga K y)) = some ((v0 :: l).contains (.ref (He.ga K y))) := by
  obtain ⟨⟨cd, hc, _⟩, ht⟩ := mro_ok g
  unfold PySem.W.kitCls
  show (if ((PySem.W.clsIn K (He.ga K y)).isSome && PySem.W.typeIn K (.ref (He.ga K y)) == some (.type "type")) = true then PySem.W.subIn K (.ref (He.ga K x)) (.ref (He.ga K y)) else none) = _
  rw [hc, ht]
  exact sub_ok h _
abbrev lst0 (K : PySem.W.Frag) (x : Str) : List Value := .ref (He.ga K x) :: .ref (He.ga K "WrongValue") :: Kin.v.mro
theorem mro_x (c : Parts K) {e : Str × Str × Kin × Nat} (h : e ∈ exs) : mroB K e.1 ([.ref (He.ga K e.1), .ref (He.ga K "WrongValue")] ++ e.2.2.1.mro) = true := allB (He.ba c.mros').1 h
theorem exm_ok {x y : Str} {v0 w0 : Value} {l m : List Value} (h : mroB K x (v0 :: l) = true) (g : mroB K y (w0 :: m) = true) (b : (w0 :: m).contains (.type "BaseException") = true) : PySem.W.exmOne K (.ref (He.ga K x)) (.ref (He.ga K y)) = some ((v0 :: l).contains (.ref (He.ga K y))) := by
  unfold PySem.W.exmOne
  rw [sub_ok g, b]
  show (if (some true == some true) = true then _ else none) = _
  rw [if_pos (by decide)]
  exact kit_ok h g
/-- a class of errors -/
def IsX (x : Str) : Prop := x = "InvalidPeople" ∨ x = "InvalidNumber" ∨ x = "InvalidPlaces"
theorem mro_i (c : Parts K) {x : Str} (hx : IsX x) : mroB K x (lst0 K x) = true := by
  rcases hx with rfl | rfl | rfl
  · exact mro_x c (e := ex1 "InvalidPeople" "given" .v 3) (by unfold exs; exact (.tail _ (.head _)))
  · exact mro_x c (e := ex1 "InvalidNumber" "given" .v 2) (by unfold exs; exact (.head _))
  · exact mro_x c (e := ex1 "InvalidPlaces" "given" .v 4) (by unfold exs; exact (.tail _ (.tail _ (.head _))))
theorem ga_ne (c : Parts K) {i j : Nat} {e1 e2 : Str × Kin} (h1 : alls[i]? = some e1) (h2 : alls[j]? = some e2) (n : i ≠ j) : He.ga K e1.1 ≠ He.ga K e2.1 := fun e => by
  have nd : (alls.map fun e => He.ga K e.1).Nodup := of_decide_eq_true (He.ba (He.ba c.mros').2).2
  have a1 : (alls.map fun e => He.ga K e.1)[i]? = some (He.ga K e1.1) := by rw [List.getElem?_map, h1] <;> rfl
  have a2 : (alls.map fun e => He.ga K e.1)[j]? = some (He.ga K e2.1) := by rw [List.getElem?_map, h2] <;> rfl
  rw [← e] at a2
  have li : i < (alls.map fun e => He.ga K e.1).length := (List.getElem?_eq_some_iff.mp a1).1
  exact n ((List.getElem?_inj li nd).mp (a1.trans a2.symm))
theorem hx_of (X : K.In h) (G : h.Ns mainGlobals mg) (c : Parts K) : Hx K mg (He.ga K "InvalidPeople") (He.ga K "InvalidNumber") (He.ga K "InvalidPlaces") := by
  have gl : ∀ e ∈ alls, mg e.1 = some (.ref (He.ga K e.1)) := fun e he => He.glo_ok X G (c.exa e he).2
  have fr : ∀ x : Str, x ∈ frees → mg x = none := fun x hx => He.free_ok X G (c.free x hx)
  have bs := (He.ba (He.ba c.mros').2).1
  have bv : mroB K "WrongValue" (.ref (He.ga K "WrongValue") :: Kin.v.mro) = true := allB bs (x := al1 "WrongValue" .v) (.head _)
  have bn : mroB K "WrongName" (.ref (He.ga K "WrongName") :: Kin.l.mro) = true := allB bs (x := al1 "WrongName" .l) (.tail _ (.head _))
  have bp : mroB K "NotPossible" (.ref (He.ga K "NotPossible") :: Kin.a.mro) = true := allB bs (x := al1 "NotPossible" .a) (.tail _ (.tail _ (.head _)))
  have nm : ∀ C, C = He.ga K "InvalidPeople" ∨ C = He.ga K "InvalidNumber" ∨ C = He.ga K "InvalidPlaces" → ∃ x : Str, IsX x ∧ C = He.ga K x := fun C hC => hC.elim (fun e => ⟨_, .inl rfl, e⟩) fun hC => hC.elim (fun e => ⟨_, .inr (.inl rfl), e⟩) fun e => ⟨_, .inr (.inr rfl), e⟩
  have n3 : ∀ a : Addr, Kin.v.mro.contains (.ref a) = false := fun a => rfl
  -- the numbers of the three among all
  have at_ : ∀ x : Str, IsX x → ∃ i e, alls[i]? = some e ∧ e.1 = x ∧ i < 3 := fun x hx => by
    rcases hx with rfl | rfl | rfl
    · exact ⟨1, _, rfl, rfl, by decide⟩
    · exact ⟨0, _, rfl, rfl, by decide⟩
    · exact ⟨2, _, rfl, rfl, by decide⟩
  have nb : ∀ x : Str, IsX x → He.ga K x ≠ He.ga K "WrongValue" ∧ He.ga K x ≠ He.ga K "WrongName" ∧ He.ga K x ≠ He.ga K "NotPossible" := fun x hx => by
    obtain ⟨i, e, h1, rfl, hi⟩ := at_ x hx
    exact ⟨ga_ne c h1 (j := 3) (e2 := al1 "WrongValue" .v) rfl (by omega), ga_ne c h1 (j := 4) (e2 := al1 "WrongName" .l) rfl (by omega), ga_ne c h1 (j := 5) (e2 := al1 "NotPossible" .a) rfl (by omega)⟩
  have vn : He.ga K "WrongValue" ≠ He.ga K "WrongName" := ga_ne c (i := 3) (j := 4) (e1 := al1 "WrongValue" .v) (e2 := al1 "WrongName" .l) rfl rfl (by decide)
  have vp : He.ga K "WrongValue" ≠ He.ga K "NotPossible" := ga_ne c (i := 3) (j := 5) (e1 := al1 "WrongValue" .v) (e2 := al1 "NotPossible" .a) rfl rfl (by decide)
  have n1 : He.ga K "InvalidPeople" ≠ He.ga K "InvalidNumber" := ga_ne c (i := 1) (j := 0) (e1 := al1 "InvalidPeople" .v) (e2 := al1 "InvalidNumber" .v) rfl rfl (by decide)
  have n2 : He.ga K "InvalidPeople" ≠ He.ga K "InvalidPlaces" := ga_ne c (i := 1) (j := 2) (e1 := al1 "InvalidPeople" .v) (e2 := al1 "InvalidPlaces" .v) rfl rfl (by decide)
  have n3' : He.ga K "InvalidNumber" ≠ He.ga K "InvalidPlaces" := ga_ne c (i := 0) (j := 2) (e1 := al1 "InvalidNumber" .v) (e2 := al1 "InvalidPlaces" .v) rfl rfl (by decide)
  have con : ∀ (x : Str) (a : Addr), (lst0 K x).contains (.ref a) = (decide (a = He.ga K x) || decide (a = He.ga K "WrongValue")) := fun x a => by
    rw [List.contains_cons, List.contains_cons, beq_ref, beq_ref, n3, Bool.or_false]
  have kk : ∀ x y : Str, IsX x → IsX y → PySem.W.kitOne K (.ref (He.ga K x)) (.ref (He.ga K y)) = some (decide (He.ga K x = He.ga K y)) := fun x y hx hy => by
    unfold PySem.W.kitOne
    rw [beq_ref]
    by_cases e : He.ga K x = He.ga K y
    · rw [if_pos (decide_eq_true e), decide_eq_true e]
    · rw [if_neg (by simpa using e), kit_ok (mro_i c hx) (mro_i c hy), con, decide_eq_false (fun z => e z.symm), decide_eq_false (nb y hy).1, decide_eq_false e] <;> rfl
  have kb : ∀ (x y : Str) (m : List Value), IsX x → He.ga K x ≠ He.ga K y → mroB K y (.ref (He.ga K y) :: m) = true → PySem.W.kitOne K (.ref (He.ga K x)) (.ref (He.ga K y)) = some (decide (He.ga K y = He.ga K "WrongValue")) := fun x y m hx ne g => by
    unfold PySem.W.kitOne
    rw [beq_ref, if_neg (by simpa using ne), kit_ok (mro_i c hx) g, con, decide_eq_false (fun z => ne z.symm)] <;> rfl
  refine ⟨gl (al1 "WrongValue" .v) (by unfold alls; exact (.tail _ (.tail _ (.tail _ (.head _))))), gl (al1 "WrongName" .l) (by unfold alls; exact (.tail _ (.tail _ (.tail _ (.tail _ (.head _)))))), gl (al1 "NotPossible" .a) (by unfold alls; exact (.tail _ (.tail _ (.tail _ (.tail _ (.tail _ (.head _))))))), gl (al1 "InvalidPeople" .v) (by unfold alls; exact (.tail _ (.head _))), gl (al1 "InvalidNumber" .v) (by unfold alls; exact (.head _)), gl (al1 "InvalidPlaces" .v) (by unfold alls; exact (.tail _ (.tail _ (.head _)))),
    fr _ (by decide +kernel), fr _ (by decide +kernel), fr _ (by decide +kernel), fun C hC => ?_, fun C hC => ?_, fun C hC => ?_, fun C D hC hD => ?_, fun C hC => ?_, fun C hC => ?_, fun C hC => ?_, fun C hC => ?_, n1, n2, n3'⟩
  · obtain ⟨x, hx, rfl⟩ := nm C hC
    have bas : ∀ y : Str, (lst0 K y).contains (.type "BaseException") = true := fun y => rfl
    have one : ∀ y : Str, IsX y → PySem.W.exmOne K (.ref (He.ga K x)) (.ref (He.ga K y)) = some (decide (He.ga K y = He.ga K x)) := fun y hy => by
      rw [exm_ok (mro_i c hx) (mro_i c hy) (bas y), con, decide_eq_false (nb y hy).1, Bool.or_false]
    unfold PySem.W.exmAny
    rw [one _ (.inl rfl)]
    unfold PySem.W.exmAny
    rw [one _ (.inr (.inl rfl))]
    unfold PySem.W.exmAny
    rw [one _ (.inr (.inr rfl))]
    unfold PySem.W.exmAny
    show some (decide (He.ga K "InvalidPeople" = He.ga K x) || (decide (He.ga K "InvalidNumber" = He.ga K x) || (decide (He.ga K "InvalidPlaces" = He.ga K x) || false))) = some true
    rcases hx with rfl | rfl | rfl
    · rw [decide_eq_true rfl] <;> rfl
    · rw [decide_eq_true (rfl : He.ga K "InvalidNumber" = He.ga K "InvalidNumber")]
      simp
    · rw [decide_eq_true (rfl : He.ga K "InvalidPlaces" = He.ga K "InvalidPlaces")]
      simp
  · obtain ⟨x, hx, rfl⟩ := nm C hC
    rcases hx with rfl | rfl | rfl
    · exact exaB_ok (c.exa (al1 "InvalidPeople" .v) (by unfold alls; exact (.tail _ (.head _)))).1 c.exs'
    · exact exaB_ok (c.exa (al1 "InvalidNumber" .v) (by unfold alls; exact (.head _))).1 c.exs'
    · exact exaB_ok (c.exa (al1 "InvalidPlaces" .v) (by unfold alls; exact (.tail _ (.tail _ (.head _))))).1 c.exs'
  · obtain ⟨x, hx, rfl⟩ := nm C hC
    rcases hx with rfl | rfl | rfl
    · exact (exkB_ok (c.exk (ex1 "InvalidPeople" "given" .v 3) (by unfold exs; exact (.tail _ (.head _))))).noF
    · exact (exkB_ok (c.exk (ex1 "InvalidNumber" "given" .v 2) (by unfold exs; exact (.head _)))).noF
    · exact (exkB_ok (c.exk (ex1 "InvalidPlaces" "given" .v 4) (by unfold exs; exact (.tail _ (.tail _ (.head _)))))).noF
  · obtain ⟨x, hx, rfl⟩ := nm C hC
    obtain ⟨y, hy, rfl⟩ := nm D hD
    exact kk x y hx hy
  · obtain ⟨x, hx, rfl⟩ := nm C hC
    rw [kb x "WrongValue" _ hx (nb x hx).1 bv, decide_eq_true rfl]
  · obtain ⟨x, hx, rfl⟩ := nm C hC
    unfold PySem.W.kitOne
    have n0 : ((Value.ref (He.ga K x)) == (Value.type "ValueError")) = false := beq_eq_false_iff_ne.mpr fun z => nomatch z
    rw [n0, if_neg (by decide)]
    unfold PySem.W.kitCls
    show (if PySem.W.kitMeta "ValueError" = true then PySem.W.subIn K (.ref (He.ga K x)) (.type "ValueError") else none) = _
    rw [if_pos (by decide +kernel), sub_ok (mro_i c hx)] <;> rfl
  · obtain ⟨x, hx, rfl⟩ := nm C hC
    rw [kb x "WrongName" _ hx (nb x hx).2.1 bn, decide_eq_false vn.symm]
  · obtain ⟨x, hx, rfl⟩ := nm C hC
    rw [kb x "NotPossible" _ hx (nb x hx).2.2 bp, decide_eq_false vp.symm]
theorem rs0 (X : K.In h) (G : h.Ns mainGlobals mg) (s : SaysM F fn K) (c : Parts K) : Rs K mg "InvalidNumber" (He.ga K "InvalidNumber") := by
  have gl : ∀ e ∈ alls, mg e.1 = some (.ref (He.ga K e.1)) := fun e he => He.glo_ok X G (c.exa e he).2
  refine ⟨?_, ?_, (mro_ok (mro_i (x := "InvalidNumber") c (.inr (.inl rfl)))).2⟩
  · obtain ⟨fd, Fi⟩ := s.fun_ 22 (st := inClass (topS 2) 0) (p := ("InvalidNumber", some "__init__")) (x := "__init__") (q := "InvalidNumber.__init__") rfl
    refine ⟨⟨_, _, _, _, _, _, fd, exkB_ok (c.exk (ex1 "InvalidNumber" "given" .v 2) (by unfold exs; exact (.head _))), .inl rfl, init_of Fi rfl rfl, ?_, ?_⟩, gl (al1 "InvalidNumber" .v) (by unfold alls; exact (.head _))⟩
    · obtain ⟨oc, od, kV, doc, pm, an, cdv, ct, osl, rfl, lk, hcd⟩ := Fi.ex
      exact fun u s y => .of_eq rfl
    · obtain ⟨oc, od, kV, doc, pm, an, cdv, ct, osl, rfl, lk, hcd⟩ := Fi.ex
      exact fun u s y => .of_eq rfl
  · rw [sub_ok (mro_i (x := "InvalidNumber") c (.inr (.inl rfl)))] <;> rfl
theorem rs1 (X : K.In h) (G : h.Ns mainGlobals mg) (s : SaysM F fn K) (c : Parts K) : Rs K mg "InvalidPeople" (He.ga K "InvalidPeople") := by
  have gl : ∀ e ∈ alls, mg e.1 = some (.ref (He.ga K e.1)) := fun e he => He.glo_ok X G (c.exa e he).2
  refine ⟨?_, ?_, (mro_ok (mro_i (x := "InvalidPeople") c (.inl rfl))).2⟩
  · obtain ⟨fd, Fi⟩ := s.fun_ 23 (st := inClass (topS 3) 0) (p := ("InvalidPeople", some "__init__")) (x := "__init__") (q := "InvalidPeople.__init__") rfl
    refine ⟨⟨_, _, _, _, _, _, fd, exkB_ok (c.exk (ex1 "InvalidPeople" "given" .v 3) (by unfold exs; exact (.tail _ (.head _)))), .inl rfl, init_of Fi rfl rfl, ?_, ?_⟩, gl (al1 "InvalidPeople" .v) (by unfold alls; exact (.tail _ (.head _)))⟩
    · obtain ⟨oc, od, kV, doc, pm, an, cdv, ct, osl, rfl, lk, hcd⟩ := Fi.ex
      exact fun u s y => .of_eq rfl
    · obtain ⟨oc, od, kV, doc, pm, an, cdv, ct, osl, rfl, lk, hcd⟩ := Fi.ex
      exact fun u s y => .of_eq rfl
  · rw [sub_ok (mro_i (x := "InvalidPeople") c (.inl rfl))] <;> rfl
theorem rs2 (X : K.In h) (G : h.Ns mainGlobals mg) (s : SaysM F fn K) (c : Parts K) : Rs K mg "InvalidPlaces" (He.ga K "InvalidPlaces") := by
  have gl : ∀ e ∈ alls, mg e.1 = some (.ref (He.ga K e.1)) := fun e he => He.glo_ok X G (c.exa e he).2
  refine ⟨?_, ?_, (mro_ok (mro_i (x := "InvalidPlaces") c (.inr (.inr rfl)))).2⟩
  · obtain ⟨fd, Fi⟩ := s.fun_ 24 (st := inClass (topS 4) 0) (p := ("InvalidPlaces", some "__init__")) (x := "__init__") (q := "InvalidPlaces.__init__") rfl
    refine ⟨⟨_, _, _, _, _, _, fd, exkB_ok (c.exk (ex1 "InvalidPlaces" "given" .v 4) (by unfold exs; exact (.tail _ (.tail _ (.head _))))), .inl rfl, init_of Fi rfl rfl, ?_, ?_⟩, gl (al1 "InvalidPlaces" .v) (by unfold alls; exact (.tail _ (.tail _ (.head _))))⟩
    · obtain ⟨oc, od, kV, doc, pm, an, cdv, ct, osl, rfl, lk, hcd⟩ := Fi.ex
      exact fun u s y => .of_eq rfl
    · obtain ⟨oc, od, kV, doc, pm, an, cdv, ct, osl, rfl, lk, hcd⟩ := Fi.ex
      exact fun u s y => .of_eq rfl
  · rw [sub_ok (mro_i (x := "InvalidPlaces") c (.inr (.inr rfl)))] <;> rfl
/-- a def's code object -/
theorem code_at {x qual : Str} {st : Stmt} {fd : FuncData} {p : Str × Option Str} {f : Addr} (F : Fun K x qual st f fd) (e : f = He.fAd K p) : ∃ c, fd.code = .ref c ∧ (He.cT K p).1 = c := by
  subst e
  obtain ⟨oc, od, kV, doc, pm, an, cdv, ct, osl, rfl, lk, hcd⟩ := F.ex
  obtain ⟨c, rfl⟩ := He.codeIn_ref hcd
  exact ⟨c, rfl, He.codeOf_eq lk rfl⟩
end
section
variable {P : Program} {w : World} {K : PySem.W.Frag} {h : Heap} {mg : Str → Option Value} {f : Addr}
theorem facts (X : K.In h) (G : h.Ns mainGlobals mg) (hfa : mg ("law" : Str) = some (.ref f)) (s : SaysM F fn K) :
    ∃ fd : FuncData, (∀ (s : Shared) (v : Value), BindsTo s fd ⟨[v], []⟩ [("_law_script", v)]) ∧
      ∀ base : Heap, K.In base → base.Ns mainGlobals mg → (∀ p ∈ tf.map (He.cT K), TabB base mg p.1 p.2) → FnG P w K mg base CX0 11 f fd ["_law_script"] (spLaw K (tabL K)) := by
  have c := partsF s
  have fr : ∀ x : Str, x ∈ frees → mg x = none := fun x hx => He.free_ok X G (c.free x hx)
  have B : Bl mg := ⟨fr _ (by decide +kernel), fr _ (by decide +kernel), fr _ (by decide +kernel), fr _ (by decide +kernel), fr _ (by decide +kernel), fr _ (by decide +kernel), fr _ (by decide +kernel), fr _ (by decide +kernel), fr _ (by decide +kernel), fr _ (by decide +kernel), fr _ (by decide +kernel), fr _ (by decide +kernel)⟩
  have TM : Tm K mg (He.ga K "_TIMES") := ⟨He.glo_ok X G c.tg, fun H => He.tupB_ok c.tt H⟩
  have TH := hx_of X G c
  have RN := rs0 X G s c
  have RP := rs1 X G s c
  have RL := rs2 X G s c
  have SM := Option.isSome_iff_exists.mp c.sm
  have gl : ∀ x : Str, x ∈ funs → mg x = some (.ref (He.ga K x)) := fun x hx => He.glo_ok X G (c.funs' x hx)
  obtain ⟨fd0, F0⟩ := s.fun_ 0 (st := s_is_integer) (p := ("is_integer", none)) (x := "is_integer") (q := "is_integer") rfl
  obtain ⟨fd1, F1⟩ := s.fun_ 1 (st := s_is_number) (p := ("is_number", none)) (x := "is_number") (q := "is_number") rfl
  obtain ⟨fd2, F2⟩ := s.fun_ 2 (st := s_is_places) (p := ("is_places", none)) (x := "is_places") (q := "is_places") rfl
  obtain ⟨fd3, F3⟩ := s.fun_ 3 (st := s_need_places) (p := ("_need_places", none)) (x := "_need_places") (q := "_need_places") rfl
  obtain ⟨fd4, F4⟩ := s.fun_ 4 (st := s_need_people) (p := ("need_people", none)) (x := "need_people") (q := "need_people") rfl
  obtain ⟨fd5, F5⟩ := s.fun_ 5 (st := s_need_number) (p := ("_need_number", none)) (x := "_need_number") (q := "_need_number") rfl
  obtain ⟨fd6, F6⟩ := s.fun_ 6 (st := s_nearest) (p := ("nearest", none)) (x := "nearest") (q := "nearest") rfl
  obtain ⟨fd7, F7⟩ := s.fun_ 7 (st := s_mean_of) (p := ("mean_of", none)) (x := "mean_of") (q := "mean_of") rfl
  obtain ⟨fd8, F8⟩ := s.fun_ 8 (st := s_spread_of) (p := ("spread_of", none)) (x := "spread_of") (q := "spread_of") rfl
  obtain ⟨fd9, F9⟩ := s.fun_ 9 (st := s_told_mean) (p := ("told_mean", none)) (x := "told_mean") (q := "told_mean") rfl
  obtain ⟨fd10, F10⟩ := s.fun_ 10 (st := s_told_spread) (p := ("told_spread", none)) (x := "told_spread") (q := "told_spread") rfl
  obtain ⟨fd11, F11⟩ := s.fun_ 11 (st := s_pail) (p := ("_law_pail", none)) (x := "_law_pail") (q := "_law_pail") rfl
  obtain ⟨fd12, F12⟩ := s.fun_ 12 (st := s_sup) (p := ("_law_sup", none)) (x := "_law_sup") (q := "_law_sup") rfl
  obtain ⟨fd13, F13⟩ := s.fun_ 13 (st := s_any) (p := ("_law_any", none)) (x := "_law_any") (q := "_law_any") rfl
  obtain ⟨fd14, F14⟩ := s.fun_ 14 (st := s_is_next) (p := ("_law_is_next", none)) (x := "_law_is_next") (q := "_law_is_next") rfl
  obtain ⟨fd15, F15⟩ := s.fun_ 15 (st := s_natural) (p := ("_law_natural", none)) (x := "_law_natural") (q := "_law_natural") rfl
  obtain ⟨fd16, F16⟩ := s.fun_ 16 (st := s_whole) (p := ("_law_whole", none)) (x := "_law_whole") (q := "_law_whole") rfl
  obtain ⟨fd17, F17⟩ := s.fun_ 17 (st := s_ended) (p := ("_law_ended", none)) (x := "_law_ended") (q := "_law_ended") rfl
  obtain ⟨fd18, F18⟩ := s.fun_ 18 (st := s_due) (p := ("_law_due", none)) (x := "_law_due") (q := "_law_due") rfl
  obtain ⟨fd19, F19⟩ := s.fun_ 19 (st := s_refused) (p := ("_law_refused_right", none)) (x := "_law_refused_right") (q := "_law_refused_right") rfl
  obtain ⟨fd20, F20⟩ := s.fun_ 20 (st := s_right) (p := ("_law_right", none)) (x := "_law_right") (q := "_law_right") rfl
  obtain ⟨fd21, F21⟩ := s.fun_ 21 (st := s_law) (p := ("law", none)) (x := "law") (q := "law") rfl
  obtain ⟨c19, hc19, e19⟩ := code_at F19 rfl
  have e := hfa.symm.trans (gl "law" (by decide +kernel))
  cases e
  refine ⟨fd21, fun s v => ?_, fun base _ _ TB => ?_⟩
  · obtain ⟨oc, od, kV, doc, pm, an, cdv, ct, osl, rfl, lk, hcd⟩ := F21.ex
    exact .of_eq rfl
  generalize hCP : He.ga K "InvalidPeople" = CP at *
  generalize hCN : He.ga K "InvalidNumber" = CN at *
  generalize hCL : He.ga K "InvalidPlaces" = CL at *
  have TBs : ∀ p ∈ ([(c19, (He.cT K ("_law_refused_right", none)).2)] : List (Addr × Addr)), TabB base mg p.1 p.2 := by
    rw [← e19]
    exact TB
  have u1 : ∀ p ∈ tabL K, p.1 = (He.cT K ("_law_refused_right", none)).2 → p.2 = lamN "_law_refused_right" s_refused := by
    intro p hp
    unfold tabL at hp
    simp only [List.mem_cons, List.not_mem_nil, or_false] at hp
    subst hp
    exact fun _ => rfl
  have DII := CallO.of F0 (ok_is_integer (P := P) (w := w) (base := base) F0 B) (gl "is_integer" (by decide +kernel)) (fun kV doc pm an cdv ct us hl => match us, hl with | [u], _ => rfl)
  have DNU := CallO.of F1 (ok_is_number F1 DII) (gl "is_number" (by decide +kernel)) (fun kV doc pm an cdv ct us hl => match us, hl with | [u], _ => rfl)
  have DPL := CallO.of F2 (ok_is_places F2 B TM DNU) (gl "is_places" (by decide +kernel)) (fun kV doc pm an cdv ct us hl => match us, hl with | [u], _ => rfl)
  have DNP := CallO.of F3 (ok_need_places F3 RL DPL) (gl "_need_places" (by decide +kernel)) (fun kV doc pm an cdv ct us hl => match us, hl with | [u], _ => rfl)
  have DPE := CallO.of F4 (ok_need_people F4 RP DII) (gl "need_people" (by decide +kernel)) (fun kV doc pm an cdv ct us hl => match us, hl with | [u, v], _ => rfl)
  have DNN := CallO.of F5 (ok_need_number F5 RN DNU) (gl "_need_number" (by decide +kernel)) (fun kV doc pm an cdv ct us hl => match us, hl with | [u], _ => rfl)
  have DNE := CallO.of F6 (ok_nearest (P := P) (w := w) (base := base) F6) (gl "nearest" (by decide +kernel)) (fun kV doc pm an cdv ct us hl => match us, hl with | [u, v], _ => rfl)
  have DME := CallO.of F7 (ok_mean_of F7 TM DNE) (gl "mean_of" (by decide +kernel)) (fun kV doc pm an cdv ct us hl => match us, hl with | [u, v, x1], _ => rfl)
  have DSP := CallO.of F8 (ok_spread_of F8 TM DNE) (gl "spread_of" (by decide +kernel)) (fun kV doc pm an cdv ct us hl => match us, hl with | [u, v, x1, x2], _ => rfl)
  have okTM := ok_told_mean (P := P) (w := w) (base := base) F9 DPE DNN DNP DME
  have okTS := ok_told_spread (P := P) (w := w) (base := base) F10 RN DPE DNN DNP DSP
  have DTM := CallO.of F9 (okTM) (gl "told_mean" (by decide +kernel)) (fun kV doc pm an cdv ct us hl => match us, hl with | [u, v, x1], _ => rfl)
  have DTS := CallO.of F10 (okTS) (gl "told_spread" (by decide +kernel)) (fun kV doc pm an cdv ct us hl => match us, hl with | [u, v, x1, x2], _ => rfl)
  have DTMK : CallK P w K mg base (L2.CX P w) 5 "told_mean" ["people", "total", "places"] (spTM CP CN CL) ["places", "total", "people"] (List.reverse) := by
    refine ⟨⟨_, fd9, okTM, (gl "told_mean" (by decide +kernel)), F9.kp, fun s us hl => ?_⟩, vals_rev⟩
    obtain ⟨oc, od, kV, doc, pm, an, cdv, ct, osl, rfl, lk, hcd⟩ := F9.ex
    match us, hl with
    | [u, v, x1], _ => exact .of_eq rfl
  have DTSK : CallK P w K mg base (L2.CX P w) 5 "told_spread" ["people", "total", "squares", "places"] (spTS CP CN CL) ["places", "squares", "total", "people"] (List.reverse) := by
    refine ⟨⟨_, fd10, okTS, (gl "told_spread" (by decide +kernel)), F10.kp, fun s us hl => ?_⟩, vals_rev⟩
    obtain ⟨oc, od, kV, doc, pm, an, cdv, ct, osl, rfl, lk, hcd⟩ := F10.ex
    match us, hl with
    | [u, v, x1, x2], _ => exact .of_eq rfl
  have DTSS : CallK P w K mg base (L2.CX P w) 5 "told_spread" ["people", "total", "squares", "places"] (spTS CP CN CL) ["squares", "people", "places", "total"] (pmS) := by
    refine ⟨⟨_, fd10, okTS, (gl "told_spread" (by decide +kernel)), F10.kp, fun s us hl => ?_⟩, vals_pm⟩
    obtain ⟨oc, od, kV, doc, pm, an, cdv, ct, osl, rfl, lk, hcd⟩ := F10.ex
    match us, hl with
    | [u, v, x1, x2], _ => exact .of_eq rfl
  have DJ := Call.of F11 (.of (ok_pail (P := P) (w := w) (base := base) F11 B)) (gl "_law_pail" (by decide +kernel)) (fun kV doc pm an cdv ct us hl => match us, hl with | [u, v], _ => rfl)
  have DS := CallO.of F12 (ok_sup (P := P) (w := w) (base := base) F12 B) (gl "_law_sup" (by decide +kernel)) (fun kV doc pm an cdv ct us hl => match us, hl with | [u, v], _ => rfl)
  have DA := CallO.of F13 (ok_any F13 B DS) (gl "_law_any" (by decide +kernel)) (fun kV doc pm an cdv ct us hl => match us, hl with | [u, v], _ => rfl)
  have DX := CallO.of F14 (ok_is_next (P := P) (w := w) (base := base) F14 B) (gl "_law_is_next" (by decide +kernel)) (fun kV doc pm an cdv ct us hl => match us, hl with | [u, v, x1], _ => rfl)
  have DN := CallO.of F15 (ok_natural (P := P) (w := w) (base := base) F15 B) (gl "_law_natural" (by decide +kernel)) (fun kV doc pm an cdv ct us hl => match us, hl with | [u], _ => rfl)
  have DW := CallO.of F16 (ok_whole (P := P) (w := w) (base := base) F16 B) (gl "_law_whole" (by decide +kernel)) (fun kV doc pm an cdv ct us hl => match us, hl with | [u, v, x1], _ => rfl)
  have DD := Call.of F18 (ok_due F18 B SM DN DW) (gl "_law_due" (by decide +kernel)) (fun kV doc pm an cdv ct us hl => match us, hl with | [u, v, x1, x2], _ => rfl)
  have DRF := Call.of F19 (ok_refused F19 hc19 B SM F17 (gl "_law_ended" (by decide +kernel)) TH (TBs _ (.head _)) (.head _) u1 DS DA DD DTM DTSS) (gl "_law_refused_right" (by decide +kernel)) (fun kV doc pm an cdv ct us hl => match us, hl with | [u, v, x1, x2, x3], _ => rfl)
  have DR := Call.of F20 (ok_rg F20 B DS DA DX DTM DTS DTMK DTSK DRF) (gl "_law_right" (by decide +kernel)) (fun kV doc pm an cdv ct us hl => match us, hl with | [u], _ => rfl)
  exact ok_law F21 B DJ DR
end
end K40
namespace K40
open PySem PySem.Spec PyProof.Rows L2 Tc
open LamX (Tabs TabS)
theorem tabs0 {K : PySem.W.Frag} {H : Hp} (h : ∀ p ∈ tf.map (He.cT K), H p.2 = some (.tbl #[])) : Tabs (tabL K) H := by
  intro p hp
  unfold tabL at hp
  simp only [List.mem_cons, List.not_mem_nil, or_false] at hp
  subst hp
  exact TabS.nil (h (He.cT K ("_law_refused_right", none)) (.head _))
end K40
open PySem PySem.W PySem.Calls PyProof.Rows
theorem PySem.Challenge.cw_toldcounts_k40_whole_told_means_and_spre_holds : PySem.Challenge.rw_toldcounts_k40_whole_told_means_and_spre.Holds := by
  w_on; o_law
  refine HandSHeadRun.head_any (r := OpenLaw.row PySem.Challenge.rw_toldcounts_k40_whole_told_means_and_spre) (q := view K40.R.prog [32]) (H := K40.hk) (ob := K40.ob)
    (M := 14000) (loose := K40.loose) (d := HandSHeadRun.topDef K40.R.prog 32) (kwd := []) K40.ob_eq
    (by kernel_rfl) (fun s => by kernel_rfl) K40.run (by kernel_rfl) (by kernel_rfl) (by kernel_rfl) (by rfl) (by first | assumption | decide +kernel) (by decide +kernel)
    ⟨rfl, rfl, rfl, rfl, rfl, by decide +kernel⟩ ?hw ?hc
  case hw => w_witness2
  case hc =>
    refine Tc.walk_endTG (l := PySem.Challenge.rw_toldcounts_k40_whole_told_means_and_spre) (n := 63) (k := 11) (x := "_law_script") (CX := fun _ => L2.CX0)
      rfl (by decide) (by kernel_rfl) ⟨rfl, by decide, by decide⟩ ?F (fun _ _ _ _ _ z => z)
    intro w mg fa h Y G hmg0
    obtain ⟨K, KX, c⟩ := Y
    have nm : (HandSHeadRun.topDef K40.R.prog 32).name = ("law" : PySem.Str) := by kernel_rfl
    rw [nm] at hmg0
    obtain ⟨fd, hb, hF⟩ := K40.facts (P := (PySem.Challenge.rw_toldcounts_k40_whole_told_means_and_spre).prog) (w := w) KX G hmg0 c.core
    refine ⟨K, fd, K40.tf.map (He.cT K), K40.spLaw K (K40.tabL K), KX, hb, ⟨fun p hp => ?_, fun p hp => ?_, fun p hp => ?_⟩, hF, fun H a ns hl hT hS => ⟨a, ns, rfl, hS, hl, K40.tabs0 hT, fun _ => rfl⟩⟩
    · obtain ⟨q, hq, rfl⟩ := List.mem_map.mp hp
      exact c.empty q hq
    · obtain ⟨q, hq, rfl⟩ := List.mem_map.mp hp
      exact c.out q hq
    · obtain ⟨q, hq, rfl⟩ := List.mem_map.mp hp
      exact PySem.W.codeHd_of_K KX (c.hd q hq)
