import PyProof.Rows.All
import Wide.All
import OpenK.AllK
import Wide.FinOn
import HandS.ForMost
import HandS.ForExc
import HandS.ExcInit
import HandS.ExcField
import HandS.IsInst
import HandS.StrMore
import HandS.FStr
import HandS.Conv
import KE.KExcInit
import HandS.ExcIs
import KE.KExcIs
import HandS.ExcValue
import PyProof.ExcBaseAll.ValueError
import PyProof.ExcBaseAll.LookupError
import PyProof.ExcBaseAll.ArithmeticError
import KE.KStateDown
import HandS.Defaults
import HandS.Head0
import HandS.Head1
import HandS.Head2
import HandS.HeadHook1
import KE.KTryMore
import HandS.Exc
import HandS.Lambda
import HandS.WordsExc
import HandS.SetFor
import HandS.Evl
import PyProof.EqKinds
import HandS.Walk
import PyProof.Rows.Chain
import HandS.HeadHook4
import HandS.EndTab
import HandS.HeadHook2
import HandS.Text
import KE.IntTextText
import PyProof.Rows.RegFStrParts
import PyProof.ListStr
import HandS.TryMany
import HandS.Comp
import HandS.Iter
import KE.KxIndex
import HandS.WideBits
import HandS.NoneIn
import HandS.TupAny
import HandS.TupMul
import HandS.Zip
import KE.DataMinMax
import HandS.List
import HandS.SortInts
import HandS.RaiseMore
import HandS.Dict
import HandS.HotCalls
import HandS.HeadEnd
import PySem.Challenge.RW_toldcounts_k75_whole_winners_by_rules
set_option Elab.async false
set_option linter.all false
set_option maxRecDepth 100000
set_option maxHeartbeats 0
/-! Defs that may show things: no repr runs around them (the guards are known to be none). -/
namespace Tc
open PySem PySem.Spec PyProof.Rows L2
/-- as a def's promise, for callers that no repr runs around -/
structure FnG (P : Program) (w : World) (K : PySem.W.Frag) (mg : Str → Option Value) (base : Heap)
    (CX : CXT) (k : Nat) (f : Addr) (fd : FuncData) (ps : List Str) (sp : Sp) : Prop where
  len : ∀ vs H Q E, sp vs H Q E → vs.length = ps.length
  run : ∀ (A : Around) (outer : List Env) (s : Shared) (H : Hp) (args : Args) (us : List Value)
    (vs : List V) (Q : VK) (E : XK), Room k A → A.guards = some [] →
    Env0 P w K mg base A outer s H → BindsTo s fd args (ps.zip us) → Vals vs us → sp vs H Q E →
    codeAny (model P w) A (.call (.ref f) args) (CR CX outer P w H s Q E) s
theorem FnG.of {P : Program} {w : World} {K : PySem.W.Frag} {mg : Str → Option Value} {base : Heap}
    {CX : CXT} {k : Nat} {f : Addr} {fd : FuncData} {ps : List Str} {sp : Sp}
    (F : FnOk P w K mg base CX k f fd ps sp) : FnG P w K mg base CX k f fd ps sp :=
  ⟨F.len, fun A o s H args us vs Q E hr _ => F.run A o s H args us vs Q E hr⟩
theorem FnG.mono {P : Program} {w : World} {K : PySem.W.Frag} {mg : Str → Option Value} {base : Heap}
    {CX : CXT} {j k : Nat} {f : Addr} {fd : FuncData} {ps : List Str} {sp : Sp}
    (F : FnG P w K mg base CX j f fd ps sp) (h : j ≤ k) : FnG P w K mg base CX k f fd ps sp :=
  ⟨F.len, fun A o s H args us vs Q E hr => F.run A o s H args us vs Q E (hr.mono h)⟩
section
variable {P : Program} {w : World} {K : PySem.W.Frag} {mg : Str → Option Value} {base : Heap}
theorem Fun.okG {CX : CXT} {x qual : Str} {st : Stmt} {f : Addr} {fd : FuncData} {N ps : List Str}
    {k : Nat} {sp : Sp} (F : Fun K x qual st f fd) (S : FnScope N ps (defScope st))
    (len : ∀ vs H Q E, sp vs H Q E → vs.length = ps.length)
    (hbody : ∀ (cdv : Value) (A : Around) (outer : List Env) (s : Shared) (H : Hp) (vs : List V)
      (Q : VK) (E : XK), Room k (A.deeper (envOfC qual (defScope st) s.heap.objs.size f cdv)) →
      (A.deeper (envOfC qual (defScope st) s.heap.objs.size f cdv)).guards = some [] →
      sp vs H Q E →
      ∃ t, PSs (cxOf CX P w K mg base N qual (defScope st) f cdv A outer s H E) (defBody st) t ∧
        t { nx := fun _ H' => Q .non H', rt := Q } (start N vs) H) :
    FnG P w K mg base CX (k + 1) f fd ps sp := by
  obtain ⟨oc, od, kV, doc, pm, an, cdv, ct, osl, rfl, lk, hcd⟩ := F.ex
  refine ⟨len, ?_⟩
  intro A outer s H args us vs Q E hr hgd e0 hb r hsp
  have vl := len _ _ _ _ hsp
  have kin : K.In s.heap := e0.mod.kin.keeps (fun b o e => (e0.bs b o e).1)
  have nlim : s.heap.NoLimit := e0.mod.nolimit.keeps (fun b o e => (e0.bs b o e).1)
  have kinds : ∀ y ∈ ps.zip us, (defScope st).names.lookup y.1 = some .local ∨
      ((defScope st).names.lookup y.1 = some .cell ∧
        ((cellsFrom (s.heap.objs.size + 1) (defScope st).names []).lookup y.1).isSome = true) := by
    rintro ⟨n, v⟩ hy
    cases S.par n (List.of_mem_zip hy).1 with
    | inl q => exact .inl q
    | inr q => exact .inr ⟨q, PySem.W.cellsFrom_some _ _ _ (.inl q)⟩
  refine codeAny_call_function hr.depth (kin _ _ lk) rfl S.co S.gen rfl
    (PySem.W.codeRec_of kin hcd) (hb _ _ _ _ ?_)
  refine wpAny_newFunctionEnv_cells S.kind kinds (fun env he s1 x => ?_)
  subst he
  refine ⟨nlim.keeps x.toInCall.keep, codeAny_func ?_⟩
  obtain ⟨t, ht, hq⟩ := hbody cdv A outer s H vs Q E (hr.deeper _) hgd hsp
  have I := inv_start (CX := CX) (P := P) (w := w) (mg := mg) (base := base) (E := E) S hr.hd e0 vl r x
  refine wpAny_mono (ht.run [] s1 (start N vs) H _ I hq) (fun fl s' hs => ?_) (fun e s' hs => hs)
  have close : ∀ {σ' : L2.St} {H' : Hp} {v : V} {u : Value},
      Inv (cxOf CX P w K mg base N qual (defScope st) f cdv A outer s H E) [] σ' H' s' →
      RelV v u → Q v H' → CE outer P w H s Q u s' := by
    intro σ' H' v u J rv q
    exact ⟨v, H', J.os, J.bare, J.base, J.hok, rv, q⟩
  cases fl with
  | ret u => obtain ⟨v, σ', H', J, rv, q⟩ := hs; exact close J rv q
  | next => obtain ⟨σ', H', J, q⟩ := hs; exact close (v := V.non) (u := Value.none) J rfl q
  | brk => obtain ⟨_, _, _, q⟩ := hs; exact False.elim q
  | cont => obtain ⟨_, _, _, q⟩ := hs; exact False.elim q
end
section
variable {X : Cx} {CX : CXT} {k : Nat} {f : Addr} {fd : FuncData} {ps : List Str} {sp : Sp}
  {dvs : List V} {ds : List Value} {E : XK} {x : Str} {p pos : Pos} {e : Expr} {es : List Expr} {t : TA}
theorem run_fnG {pins : List (Addr × Obj)} {σ : L2.St} {H : Hp} {s : Shared} {Q : VK}
    {us : List Value} {vs : List V} (F : FnG X.prog X.w X.K X.mg X.base CX k f fd ps sp)
    (hr : Room k X.A) (hgd : X.A.guards = some []) (hb : Binds X.K fd ps ds) (hd : Vals dvs ds)
    (hx : Passes CX X E) (I : Inv X pins σ H s) (r : Vals vs us) (h : sp (vs ++ dvs) H Q E) :
    wpAny (model X.prog X.w) X.A (call (.ref f) us) (EP X pins σ Q) X.xe s := by
  have both : Vals (vs ++ dvs) (us ++ ds) := r.append hd
  have hl : (us ++ ds).length = ps.length := both.length ▸ F.len _ _ _ _ h
  have main := F.run X.A X.stack s H ⟨us, []⟩ (us ++ ds) (vs ++ dvs) Q E hr hgd I.env0
    (hb s us I.kIn hl) both h
  refine wpAny_call (codeAny_mono main ?_)
  intro res s' hq
  cases res with
  | error er => exact hx pins σ H s er s' I hq
  | ok fl =>
    cases fl with
    | ret u => exact I.after hq
    | next | brk | cont => exact False.elim hq
theorem pe_callG (F : FnG X.prog X.w X.K X.mg X.base CX k f fd ps sp) (hr : Room k X.A)
    (hgd : X.A.guards = some []) (hg : Gl X x) (hm : X.mg x = some (.ref f))
    (hk : PySem.W.keepIn X.K (.ref f) = true) (hb : Binds X.K fd ps ds) (hd : Vals dvs ds)
    (hx : Passes CX X E) (ha : PA X (e :: es) t)
    (hdb : (x == ("__debug__" : Str)) = false := by decide)
    (he : starEach (e :: es) X.env = (false, eval e X.env) :: starEach es X.env := by rfl)
    (hpl : (backTo pos (starEach es X.env)).any (·.1) = false := by rfl) :
    PE X (.Call (.Name x p) (e :: es) [] pos) (tCall sp dvs E t) := by
  constructor
  intro pins s σ H Q I h
  have args := ha.run pos pins s σ H _ I h
  refine wpAny_Call_Name_kw (ld_glob I hg hm ?_ hdb)
  refine PySem.W.callWith_K (h₀ := X.base) I.ok.mod.kin hk (thn args ?_) he hpl
  rintro us s1 ⟨vs, H1, I1, r, q⟩
  exact ⟨I1.kIn, run_fnG F hr hgd hb hd hx I1 r q⟩
end
end Tc
/-! Data at any depth, dicts too; what repr makes of them. -/
namespace Tc
open PySem PySem.Spec PyProof.Rows L2
def kD : Key → PyData
  | .inl i => .int i
  | .inr x => .str x
mutual
/-- the value is this data, all of it tracked -/
inductive Dv (H : Hp) : V → PyData → Prop
  | non : Dv H .non .none
  | bl (b : Bool) : Dv H (.bl b) (.bool b)
  | int (i : Int) : Dv H (.int i) (.int i)
  | str (x : Str) : Dv H (.str x) (.str x)
  | lst {a : Addr} {xs : List V} {ds : List PyData} : Rd H a (.lst xs) → DvAll H xs ds → Dv H (.ref a) (.list ds)
  | tup {a : Addr} {xs : List V} {ds : List PyData} : Rd H a (.tup xs) → DvAll H xs ds → Dv H (.ref a) (.tuple ds)
  | dct {a : Addr} {kvs : List (Key × V)} {ds : List (PyData × PyData)} : Rd H a (.dK kvs) → DvKv H kvs ds → Dv H (.ref a) (.dict ds)
inductive DvAll (H : Hp) : List V → List PyData → Prop
  | nil : DvAll H [] []
  | cons {v : V} {vs : List V} {d : PyData} {ds : List PyData} : Dv H v d → DvAll H vs ds → DvAll H (v :: vs) (d :: ds)
inductive DvKv (H : Hp) : List (Key × V) → List (PyData × PyData) → Prop
  | nil : DvKv H [] []
  | cons {k : Key} {v : V} {kvs : List (Key × V)} {d : PyData} {ds : List (PyData × PyData)} : Dv H v d → DvKv H kvs ds → DvKv H ((k, v) :: kvs) ((kD k, d) :: ds)
end
theorem rd_ne {H : Hp} {a : Addr} {u : HO} (h : Rd H a u) (hs : H sysModules = none) : a ≠ sysModules := by
  rintro rfl
  rcases h with h | ⟨o, h⟩ <;> (rw [hs] at h; cases h)
section
variable {X : Cx} {pins : List (Addr × Obj)} {σ : L2.St} {H : Hp} {s : Shared}
mutual
theorem Dv.reads (I : Inv X pins σ H s) (hs : H sysModules = none) : ∀ {v : V} {d : PyData}, Dv H v d → ∀ u, RelV v u →
    ∃ as, Reads s.heap u d as ∧ sysModules ∉ as
  | _, _, .non, _, r => by cases r; exact ⟨_, Reads.none, by simp⟩
  | _, _, .bl b, _, r => by cases r; exact ⟨_, Reads.bool b, by simp⟩
  | _, _, .int i, _, r => by obtain ⟨t, rfl⟩ := r; exact ⟨_, Reads.int i t, by simp⟩
  | _, _, .str x, _, r => by obtain ⟨t, rfl⟩ := r; exact ⟨_, Reads.str x t, by simp⟩
  | _, _, .lst h ha, _, r => by
    cases r
    obtain ⟨its, rv, ⟨o, n, ho, hc, _, hd⟩, _⟩ := I.list (.inl h)
    obtain ⟨as, hr, hn⟩ := DvAll.reads I hs ha _ rv
    exact ⟨_, Reads.list ho hc hd hr, by simpa using ⟨(rd_ne h hs).symm, hn⟩⟩
  | _, _, .tup h ha, _, r => by
    cases r
    obtain ⟨its, rv, ⟨o, ho, hc, n, hd⟩, _⟩ := I.tuple (.inl h)
    obtain ⟨as, hr, hn⟩ := DvAll.reads I hs ha _ rv
    exact ⟨_, Reads.tuple ho hc hd hr, hn⟩
  | _, _, .dct (a := a) h ha, _, r => by
    cases r
    obtain ⟨_, _, vs, rk, o, es, ep, ho, hx, hd, _, hp, _⟩ := h.ok I.hok
    obtain ⟨as, bs, h1, h2, n1, n2⟩ := DvKv.reads I hs ha _ rk _ hp
    exact ⟨_, Reads.dict ho hx.1 hd h1 h2, by
      simp only [List.cons_append, List.mem_cons, List.mem_append, not_or]
      exact ⟨(rd_ne h hs).symm, n1, n2⟩⟩
theorem DvAll.reads (I : Inv X pins σ H s) (hs : H sysModules = none) : ∀ {vs : List V} {ds : List PyData}, DvAll H vs ds → ∀ us, Vals vs us →
    ∃ as, ReadsAll s.heap us ds as ∧ sysModules ∉ as
  | _, _, .nil, _, r => by cases r; exact ⟨_, ReadsAll.nil, by simp⟩
  | _, _, .cons h1 h2, _, r => by
    cases r with
    | cons r1 r2 =>
      obtain ⟨as, q1, n1⟩ := Dv.reads I hs h1 _ r1
      obtain ⟨bs, q2, n2⟩ := DvAll.reads I hs h2 _ r2
      exact ⟨_, ReadsAll.cons q1 q2, by simpa using ⟨n1, n2⟩⟩
theorem DvKv.reads (I : Inv X pins σ H s) (hs : H sysModules = none) : ∀ {kvs : List (Key × V)} {ds : List (PyData × PyData)}, DvKv H kvs ds → ∀ vs, KV kvs vs → ∀ es, Pairs (mixKind X.prog X.w) es vs →
    ∃ as bs, ReadsAll s.heap (es.map (·.key)) (ds.map (·.1)) as ∧ ReadsAll s.heap (es.map (·.val)) (ds.map (·.2)) bs ∧ sysModules ∉ as ∧ sysModules ∉ bs
  | _, _, .nil, _, r, _, p => by
    cases r; cases p
    exact ⟨_, _, ReadsAll.nil, ReadsAll.nil, by simp, by simp⟩
  | _, _, .cons (k := k) h1 h2, _, r, _, p => by
    cases r with
    | cons r1 r2 =>
      cases p with
      | @cons e0 kv0 es0 kvs0 p1 p2 p3 =>
        obtain ⟨rk, rv⟩ := r1
        obtain ⟨as, q1, n1⟩ := Dv.reads I hs h1 _ rv
        obtain ⟨as', bs', q2, q3, n2, n3⟩ := DvKv.reads I hs h2 _ r2 _ p3
        have hk : ∃ cs, Reads s.heap e0.key (kD k) cs ∧ sysModules ∉ cs := by
          have p1' := p1
          rw [← rk, mixKind_is] at p1'
          rcases keyIs_shape p1' with ⟨i, t, e1, e2⟩ | ⟨x, t, e1, e2⟩
          · dsimp only at e1
            subst e1
            exact ⟨[], by rw [e2]; exact Reads.int i t, by simp⟩
          · dsimp only at e1
            subst e1
            exact ⟨[], by rw [e2]; exact Reads.str x t, by simp⟩
        obtain ⟨cs, hk1, hk2⟩ := hk
        exact ⟨_, _, ReadsAll.cons hk1 q2, ReadsAll.cons (show Reads s.heap e0.val _ as by rw [p2]; exact q1) q3, by simpa using ⟨hk2, n2⟩, by simpa using ⟨n1, n3⟩⟩
end
end
/-- repr(x) -/
def rRepr : List V → Hp → VK → Prop := fun xs H Q => ∃ v d, xs = [v] ∧ Dv H v d ∧ d.showable = true ∧ d.depth ≤ 100 ∧
  d.shown.length ≤ sizeLine ∧ Q (.str d.shown) H
theorem call_repr {X : Cx} {k : Nat} (hr : Room k X.A) (hgd : X.A.guards = some []) (hsm : ∃ o, X.K.lookup sysModules = some o) :
    CallR X (.builtin "repr") rRepr := by
  intro pins s σ H xs us Q I r h
  obtain ⟨v, d, rfl, hv, hs, hd, hl, q⟩ := h
  obtain ⟨u, rfl, ru⟩ := vals1 r
  have hun := hr.un
  have sm : H sysModules = none := by
    obtain ⟨o, ho⟩ := hsm
    exact I.bs _ _ (I.ok.mod.kin _ _ ho) |>.2
  obtain ⟨as, rd, na⟩ := Dv.reads I sm hv u ru
  cases hv with
  | non =>
    cases ru
    exact PySem.P.repr_of_none ⟨.str _, H, I.tok _, ⟨_, rfl⟩, q⟩
  | bl b =>
    cases ru
    exact PySem.P.repr_of_bool ⟨.str _, H, I.tok _, ⟨_, rfl⟩, q⟩
  | int i =>
    obtain ⟨t, rfl⟩ := ru
    exact PySem.P.repr_of_int (by simpa [PyData.showable] using hs) ⟨.str _, H, I.tok _, ⟨_, rfl⟩, q⟩
  | str x =>
    obtain ⟨t, rfl⟩ := ru
    exact PySem.P.repr_of_str ⟨.str _, H, I.tok _, ⟨_, rfl⟩, q⟩ (by simpa [PyData.shown] using hl)
  | lst _ _ | tup _ _ | dct _ _ =>
    cases ru
    refine repr_of_reads' rd hs (fun _ => na) hgd (by omega) (fun _ _ e => e) (fun h' u tk hk => ?_) hl
    exact ⟨.str _, H, I.kept (t' := tk) hk, ⟨_, rfl⟩, q⟩
end Tc
/-! The law's call, where the guards are known to be none. -/
namespace Tc
open PySem PySem.Spec PyProof.Rows L2
section
variable {P : Program} {w : World} {K : PySem.W.Frag} {mg mb : Str → Option Value} {CX : CXT}
  {k : Nat} {fa a : Addr} {fd : FuncData} {x : Str} {sp : Sp} {s₁ : Shared} {vs : List Value} {ns : List Int}
/-- what must hold behind the law's call -/
abbrev Behind (s₁ : Shared) : Result → Shared → Prop := fun r s' =>
  r = .ok (.ret (.bool true)) ∧ OldK s₁.heap s'.heap ∧ s'.os = s₁.os ∧ AllBare s'.gens
end
end Tc
/-! An own exception class is called, with keywords too. -/
namespace Tc
open PySem PySem.Spec PySem.W
open Builtin Builtin.ObjectAttr
section
variable {M : Model} {A : Around} {E : Value → Shared → Prop} {h : Heap} {g : Array GenState} {d : Drawn} {t : Nat} {os : OsState}
variable {nm q : Str} {C N : Addr} {bs bm bmB : List Value} {hdct : Bool} {sn : List Str} {sub : List Value} {ab : Bool}
  {col : Option Bool} {dd : Option Addr} {k0 k1 k2 k3 k5 : Option Value} {B newId initId : String}
theorem check_newA (F : ExcBaseFacts B newId initId bmB) (hT : ∀ X : String, bm.contains (.type X) = bmB.contains (.type X))
    {rest : List Value} {kw : List (Str × Value)} {Q : Unit → Shared → Prop}
    (hC : h.get? C = some (excClassObj nm q C N bs bm hdct sn sub ab col dd k0 k1 k2 k3 k5 newId))
    (hq : Q () ⟨h, g, d, t, os⟩) : wpAny M A (checkBuiltinCall newId ⟨.ref C :: rest, kw⟩) Q E ⟨h, g, d, t, os⟩ := by
  have mine : (Value.ref C :: bm).contains (.type B) = true := by rw [List.contains_cons, hT, F.hasB, Bool.or_true]
  have star := F.noStar
  simp only [checkBuiltinCall, F.newKind, F.newSplit, F.newRow]
  repeat (first
    | refine wpAny_loadPart_at hC ?_
    | (refine wpAny_isSubtype_exc hC ?_; rw [mine])
    | refine wpAny_staticBase_exc hC ?_
    | refine wpAny_madeBy_exc hC ?_
    | simp only [bne_self_eq_false, Bool.false_eq_true, if_false]
    | wp_step)
  exact hq
end
section
variable {prog : Program} {w : World} {A : Around} {E : Value → Shared → Prop} {R : Result → Shared → Prop} {h : Heap}
  {g : Array GenState} {d : Drawn} {t : Nat} {os : OsState}
variable {nm q : Str} {C N : Addr} {bs bm bmB : List Value} {hdct : Bool} {sn : List Str} {sub : List Value} {ab : Bool}
  {col : Option Bool} {dd : Option Addr} {k0 k1 k2 k3 k5 : Option Value} {B newId initId : String}
theorem newA (F : ExcBaseFacts B newId initId bmB) (hT : ∀ X : String, bm.contains (.type X) = bmB.contains (.type X))
    {rest : List Value} {kw : List (Str × Value)}
    (hC : h.get? C = some (excClassObj nm q C N bs bm hdct sn sub ab col dd k0 k1 k2 k3 k5 newId))
    (hq : R (.ok (.ret (.ref (h.objs.size + 1))))
      ⟨(h.push (kdv_tup rest)).push (HandSPX.excO C h.objs.size), g, d, t, os⟩) (hrest : rest.length ≤ sizeLine) :
    codeAny (model prog w) A (.builtin newId ⟨.ref C :: rest, kw⟩) R ⟨h, g, d, t, os⟩ := by
  have hends := F.ends
  have mine : (Value.ref C :: bm).contains (.type B) = true := by rw [List.contains_cons, hT, F.hasB, Bool.or_true]
  have noA : (Value.ref C :: bm).contains (.type "AttributeError") = false := by rw [List.contains_cons, hT, F.noAttr]; rfl
  have noN : (Value.ref C :: bm).contains (.type "NameError") = false := by rw [List.contains_cons, hT, F.noName]; rfl
  refine codeAny_builtinAt F.entry ?_
  unfold Builtin.«BaseException.__new__»
  refine wpAt_bind ?_
  show wpAt _ _ _ (stack >>= _) _ _ _
  refine wpAt_bind (wpAt_stack ?_)
  intro p below
  refine wpAt_of_wpAny ?_
  wp_walk
  refine wpAt_of_wpAny ?_
  rw [F.owner]
  repeat (first
    | with_reducible refine wpAny_madeHere_exc F.canon hC ?_
    | with_reducible refine wpAny_loadPart_at hC ?_
    | (with_reducible refine wpAny_isSubtype_exc hC ?_; first | rw [mine] | rw [noA] | rw [noN])
    | wp_step)
  show R _ _
  rw [Heap.size_push]
  exact hq
/-- type.__call__ on such a class, its __init__ a def -/
theorem typeCallA (F : ExcBaseFacts B newId initId bmB) (hT : ∀ X : String, bm.contains (.type X) = bmB.contains (.type X))
    {rest : List Value} {kw : List (Str × Value)} {fI : Addr} {Q : PySem.Fin → Shared → Prop}
    (hC : h.get? C = some (excClassObj nm q C N bs bm hdct sn sub ab col dd k0 k1 k2 k3 k5 newId))
    (hi : W.Looks (model prog w) h (typeLookup (.ref C) "__init__") (some (.ref fI)))
    (hb : ∀ self, W.Looks (model prog w) h (bindSpecial (.ref fI) self) (.ref fI, [self])) (hrest : rest.length ≤ sizeLine)
    (hq : codeAny (model prog w) A (.call (.ref fI) ⟨.ref (h.objs.size + 1) :: rest, kw⟩)
      (fun r s' => match r with
        | .ok (.ret v) => v = .none ∧ Q (.done (.ret (.ref (h.objs.size + 1)))) s'
        | .ok _ => False
        | .error e => E e s')
      ⟨(h.push (W.kdv_tup rest)).push (HandSPX.excO C h.objs.size), g, d, t, os⟩) :
    wpAny (model prog w) A (Builtin.«type.__call__» ⟨.ref C :: rest, kw⟩) Q E ⟨h, g, d, t, os⟩ := by
  repeat (first
    | with_reducible refine wpAny_loadPart_at hC ?_
    | with_reducible refine wpAny_madeBy_exc hC ?_
    | wp_step)
  refine codeAny_call_builtin_code (Code.quiet_builtin _ F.quiet) (check_newA F hT hC ?_)
  refine newA F hT hC ?_ hrest
  show wpAny _ _ _ _ _ _
  have k : ∀ b o, h.get? b = some o →
      ((h.push (W.kdv_tup rest)).push (HandSPX.excO C h.objs.size)).get? b = some o := fun b o e =>
    Heap.get?_push_of_some _ (Heap.get?_push_of_some _ e)
  have inst : ((h.push (W.kdv_tup rest)).push (HandSPX.excO C h.objs.size)).get? (h.objs.size + 1) =
      some (HandSPX.excO C h.objs.size) := by heap_get
  have later := k _ _ hC
  have own : (Value.ref C :: bm).contains (.ref C) = true := by simp
  have i1 := hi.keeps k
  have b1 := (hb (.ref (h.objs.size + 1))).keeps k
  unfold isInstance
  repeat (first
    | with_reducible refine wpAny_loadPart_at inst ?_
    | (with_reducible refine wpAny_isSubtype_exc later ?_; rw [own])
    | wp_step)
  show wpAny _ _ (typeLookup (.ref C) _) _ _ _
  refine i1.at (wpAny_holding (wpAny_bind (b1.at ?_)))
  refine wpAny_bind (wpAny_call (codeAny_mono hq ?_))
  intro r s' z
  rcases r with e | (v | _ | _ | _) <;> first | exact z | exact z.elim | skip
  obtain ⟨rfl, z⟩ := z
  first
    | exact wpAny_pure (wpAny_pure z)
    | (wp_walk; exact z)
theorem callA (F : ExcBaseFacts B newId initId bmB) (hT : ∀ X : String, bm.contains (.type X) = bmB.contains (.type X))
    {rest : List Value} {kw : List (Str × Value)} {fI : Addr}
    (hC : h.get? C = some (excClassObj nm q C N bs bm hdct sn sub ab col dd k0 k1 k2 k3 k5 newId))
    (hi : W.Looks (model prog w) h (typeLookup (.ref C) "__init__") (some (.ref fI)))
    (hb : ∀ self, W.Looks (model prog w) h (bindSpecial (.ref fI) self) (.ref fI, [self])) (hrest : rest.length ≤ sizeLine)
    (hq : codeAny (model prog w) (A.under (.builtin "type.__call__" ⟨.ref C :: rest, kw⟩))
      (.call (.ref fI) ⟨.ref (h.objs.size + 1) :: rest, kw⟩) (W.InitBack (h.objs.size + 1) R)
      ⟨(h.push (W.kdv_tup rest)).push (HandSPX.excO C h.objs.size), g, d, t, os⟩) :
    codeAny (model prog w) A (.call (.ref C) ⟨rest, kw⟩) R ⟨h, g, d, t, os⟩ := by
  have f1 := PySem.tc_lookup
  have f2 := PySem.tc_bind (.ref C)
  have hTy : (⟨h, g, d, t, os⟩ : Shared).TypeIs (.ref C) "type" := ⟨_, hC, rfl⟩
  refine codeAny_of_tree ?_
  show wpAny _ _ (callAny (.ref C) _) _ _ _
  repeat (any_goals (first
    | assumption
    | with_reducible refine wpAny_loadPart_at hC ?_
    | wp_step))
  refine ⟨rfl, ?_⟩
  refine codeAny_call_builtin_at (Code.quiet_builtin _ (by decide +kernel)) entry_typeCall ?_
  refine wpAny_check_type_call_sub hC (typeCallA F hT hC hi hb hrest ?_)
  refine codeAny_mono hq ?_
  intro r s' z
  rcases r with e | (v | _ | _ | _) <;> exact z
end
end Tc
/-! An own exception class with one field is called: what stands then. -/
namespace Tc
open PySem PySem.Spec PySem.W
open Builtin Builtin.ObjectAttr
/-- what is written of an exception class with an __init__ at fI, over the base B; fld: its field -/
structure ExK (K : Frag) (C fI : Addr) (B newId initId : String) (bmB : List Value) (fld : Str) : Prop where
  base : ExcBaseFacts B newId initId bmB
  store : StoreFacts B bmB "object.__setattr__" "object"
  ini : excInitIn K C bmB newId = true
  over : excOver K C bmB = true
  own : hasDictIn K C = true
  sa : findIn K (.ref C) "__setattr__" = some (some (.builtin "object.__setattr__"))
  tak : takerIn K C fld = some none
  noF : findIn K (.ref C) fld = some none
  iC : findIn K (.ref C) "__init__" = some (some (.ref fI))
  tI : typeIn K (.ref fI) = some (.type "function")
  kp : keepIn K (.ref C) = true
/-- def __init__(self, FLD): self.FLD = FLD -/
structure InitDef (K : Frag) (fI : Addr) (qual fld : Str) (fd : FuncData) : Prop where
  ex : ∃ (oc : Value) (od : Option Addr) (kV doc pm : Value) (an : Option Addr) (cdv ct : Value) (osl : Array (Option Value))
    (pa : Arguments) (sc : Scope) (q1 q2 q3 q4 : Pos),
    fd = fnOf "__init__" qual pa [.Assign [.Attribute (.Name "self" q1) fld q2] (.Name fld q3) q4] sc .none kV doc pm an cdv ct ∧
    sc = { kind := .function, names := [("self", .local), (fld, .local)], isGenerator := false, isCoroutine := false, more := [] } ∧
    K.lookup fI = some ⟨oc, od, .func fd, osl⟩ ∧ codeIn K cdv qual = true
section
variable {prog : Program} {w : World} {A : Around} {E : Value → Shared → Prop} {R : Result → Shared → Prop}
  {hp : Heap} {g : Array GenState} {d : Drawn} {t : Nat} {os : OsState} {K : Frag} {C fI : Addr} {B newId initId : String}
  {bmB : List Value} {fld qual : Str} {fd : FuncData} {x t0 : Addr} {v : Value}
theorem osa_first {tk : Tok} (Z : ExK K C fI B newId initId bmB fld) (X : K.In hp)
    (hx : hp.get? x = some (HandSPX.excO C t0))
    (hq : ∀ h' tk' dx, (∀ b o, b ≠ x → hp.get? b = some o → h'.get? b = some o) → hp.objs.size ≤ dx → dx ≠ x →
      h'.get? x = some { HandSPX.excO C t0 with dict := some dx } →
      h'.Ns1 dx (fun y => if y = fld then some v else none) → R (.ok (.ret .none)) ⟨h', g, d, tk', os⟩) :
    codeAny (model prog w) A (.call (.builtin "object.__setattr__") ⟨[.ref x, .str fld tk, v], []⟩) R ⟨hp, g, d, t, os⟩ := by
  refine osa_openX (od := none) Z.store X ⟨hx, rfl, rfl, trivial⟩ Z.over Z.tak ?_
  intro b
  have hxs : x ≠ hp.objs.size := Nat.ne_of_lt (Heap.lt_size hx)
  obtain ⟨cd, hcd, hh⟩ := any_some Z.own
  have hcls : Looks (model prog w) hp (classData C) cd := looks_clsIn X hcd
  show wpAny _ _ (storeInOwnDict (.ref x) (.ref C) (.str fld tk) fld v b) _ _ _
  obtain ⟨nm, bs, mro, ns, qn, hd, sn, sb, ab, col, del⟩ := cd
  dsimp only at hh
  subst hh
  unfold storeInOwnDict ownDictForStores
  repeat (first
    | with_reducible refine HandSPX.store_in_new ?_ ?_
    | with_reducible refine wpAny_loadPart_at hx ?_
    | with_reducible refine hcls.at ?_
    | wp_step)
  · exact ⟨_, #[], _, (Heap.get?_update_ne _ _ _ _ hxs.symm).trans (Heap.get?_push_at rfl rfl), rfl,
      fun e he => absurd he (by simp), fun _ => rfl⟩
  · intro h' tk' hn' hs
    have hx1 : (hp.push { cls := .type "dict", data := .dict #[] }).get? x = some (HandSPX.excO C t0) :=
      Heap.get?_push_of_some _ hx
    refine hq h' tk' hp.objs.size ?_ (Nat.le_refl _) hxs.symm ?_ hn'
    · intro b o hb ho
      refine (hs.2 b (Nat.ne_of_lt (Heap.lt_size ho))).trans ?_
      exact (Heap.get?_update_ne _ _ _ _ hb).trans (Heap.get?_push_of_some _ ho)
    · exact (hs.2 x hxs).trans (Heap.get?_update_self _ hx1 rfl)
end
end Tc
namespace Tc
open PySem PySem.Spec PySem.W PyProof.Rows
open Builtin Builtin.ObjectAttr
theorem ld_local {M : Model} {s : Shared} {name : Str} {scope : Scope} {L a : Addr} {cd : Value} {m : Str → Option Value}
    {x : Str} {pos : Pos} {v : Value} {Q : Value → Shared → Prop} {A : Around} {E : Value → Shared → Prop}
    (hn : s.heap.Ns L m) (hv : m x = some v) (h : Q v s) (hk : scope.kind = .function := by rfl)
    (hl : (envOfC name scope L a cd).kindOf x = some .local := by rfl) (hd : (x == ("__debug__" : Str)) = false := by decide) :
    wpAny M A (eval (.Name x pos) (envOfC name scope L a cd)) Q E s :=
  wpAny_Name (wpAny_loadName_local hk hl hn hv h) hd
/-- the two names that such a field has -/
def FieldName (fld : Str) : Prop := fld = "given" ∨ fld = "index"
section
variable {prog : Program} {w : World} {A : Around} {E : Value → Shared → Prop} {R : Result → Shared → Prop}
  {s : Shared} {K : Frag} {C fI : Addr} {B newId initId : String}
  {bmB : List Value} {fld qual : Str} {fd : FuncData} {x t0 : Addr} {v : Value}
/-- behind __init__ -/
structure InitDone (h h' : Heap) (x C dx t1 : Addr) (fld : Str) (v : Value) : Prop where
  keep : ∀ b o, b ≠ x → h.get? b = some o → h'.get? b = some o
  obj : h'.get? x = some { HandSPX.excO C t1 with dict := some dx }
  big : h.objs.size ≤ dx
  dne : dx ≠ x
  ns : h'.Ns1 dx (fun y => if y = fld then some v else none)
theorem init_run (Z : ExK K C fI B newId initId bmB fld) (fn : FieldName fld) (D : InitDef K fI qual fld fd) (X : K.In s.heap)
    (hlim : s.heap.NoLimit) (hx : s.heap.get? x = some (HandSPX.excO C t0)) (hroom : A.depth < recursionLimit)
    {args : Args} (hb : BindsTo s fd args [("self", .ref x), (fld, v)])
    (hq : ∀ h' tk dx, InitDone s.heap h' x C dx t0 fld v → R (.ok (.ret .none)) { s with heap := h', toks := tk }) :
    codeAny (model prog w) A (.call (.ref fI) args) R s := by
  obtain ⟨oc, od, kV, doc, pm, an, cdv, ct, osl, pa, sc, q1, q2, q3, q4, rfl, rfl, ho, hcd⟩ := D.ex
  have two : (fld == ("self" : Str)) = false := by rcases fn with rfl | rfl <;> decide
  refine Att.call_fn (binds := [("self", .ref x), (fld, v)]) X hlim ho hcd hroom hb
    (by rcases fn with rfl | rfl <;> first | rfl | decide | with_unfolding_all rfl) (fun s1 IC => ?_) rfl rfl rfl
  obtain ⟨h1, tk1, rfl⟩ := IC.toInCall.same
  have k : ∀ b o, s.heap.get? b = some o → h1.get? b = some o := IC.toInCall.keep
  have hn := IC.toInCall.ns
  have X1 : K.In h1 := X.keeps k
  have hx1 := k _ _ hx
  show wpAny _ _ (execs _ _) _ _ _
  refine wpAny_execs_cons (plainObj_wpAny_Assign_Attribute ?_)
  refine ld_local (v := v) hn ?_ (ld_local (v := .ref x) hn ?_ ?_ rfl ?_) rfl ?_ ?_
  · rcases fn with rfl | rfl <;> first | rfl | with_unfolding_all rfl | kernel_rfl
  · rcases fn with rfl | rfl <;> first | rfl | with_unfolding_all rfl | kernel_rfl
  · refine set_plain X1 (ox := HandSPX.excO C t0) (od := none) ⟨hx1, rfl, rfl, trivial⟩ Z.sa ?_
    refine osa_first Z X1 hx1 (fun h3 tk3 dx k3 dn dne hx3 hn3 => ?_)
    show wpAny _ _ (execs _ _) _ _ _
    have z : s.heap.objs.size < h1.objs.size := hn.lt
    exact wpAny_execs_nil (hq h3 tk3 dx ⟨fun b o hb e => k3 b o hb (k b o e), hx3,
      Nat.le_of_lt (Nat.lt_of_lt_of_le z dn), dne, hn3⟩)
  · rcases fn with rfl | rfl <;> rfl
  · rcases fn with rfl | rfl <;> rfl
  · rcases fn with rfl | rfl <;> decide
/-- a new exception, its field -/
structure MadeX (h h' : Heap) (e C d : Addr) (fld : Str) (v : Value) : Prop where
  keep : ∀ b o, h.get? b = some o → h'.get? b = some o
  new : h.objs.size ≤ e
  obj : ∃ t1 : Addr, h'.get? e = some { HandSPX.excO C t1 with dict := some d }
  big : h.objs.size ≤ d
  dne : d ≠ e
  ns : h'.Ns1 d (fun y => if y = fld then some v else none)
theorem made_run (Z : ExK K C fI B newId initId bmB fld) (fn : FieldName fld) (D : InitDef K fI qual fld fd) (X : K.In s.heap)
    (hlim : s.heap.NoLimit) (hroom : A.depth + 1 < recursionLimit) {rest : List Value} {kw : List (Str × Value)} (hz : rest.length ≤ sizeLine)
    (hb : ∀ (s : Shared) (y : Addr), BindsTo s fd ⟨.ref y :: rest, kw⟩ [("self", .ref y), (fld, v)])
    (hq : ∀ h' tk e d, MadeX s.heap h' e C d fld v → R (.ok (.ret (.ref e))) { s with heap := h', toks := tk }) :
    codeAny (model prog w) A (.call (.ref C) ⟨rest, kw⟩) R s := by
  obtain ⟨nm, N', qn, bs, bm, hdct, sn, sub, ab, col, dd, k0, k1, k2, k3, k5, hC, hT⟩ := excInit_of X Z.ini
  obtain ⟨hp, g, dr, tk, os⟩ := s
  have k : ∀ b o, hp.get? b = some o → ((hp.push (kdv_tup rest)).push (HandSPX.excO C hp.objs.size)).get? b = some o :=
    fun b o e => Heap.get?_push_of_some _ (Heap.get?_push_of_some _ e)
  have hget : ((hp.push (kdv_tup rest)).push (HandSPX.excO C hp.objs.size)).get? (hp.objs.size + 1) =
      some (HandSPX.excO C hp.objs.size) := by heap_get
  refine callA Z.base hT hC (looks_findIn X Z.iC) (fun self => bind_fn X self Z.tI) hz ?_
  refine init_run (s := ⟨(hp.push (kdv_tup rest)).push (HandSPX.excO C hp.objs.size), g, dr, tk, os⟩) Z fn D
    (X.keeps k) (hlim.keeps k) hget ?_ (hb _ _) ?_
  · have e : (A.under (.builtin "type.__call__" ⟨.ref C :: rest, kw⟩)).depth = A.depth + 1 := L2.make_depth
    omega
  · rintro h' tk' dx ⟨k', hx, dn, dne, hns⟩
    have z : hp.objs.size + 1 + 1 ≤ dx := by
      have q := dn
      rw [Heap.size_push, Heap.size_push] at q
      exact q
    refine ⟨rfl, hq h' tk' (hp.objs.size + 1) dx ⟨fun b o e => ?_, Nat.le_succ _, ⟨_, hx⟩,
      Nat.le_trans (Nat.le_trans (Nat.le_succ _) (Nat.le_succ _)) z, dne, hns⟩⟩
    exact k' b o (Nat.ne_of_lt (Nat.lt_succ_of_lt (Heap.lt_size e))) (k b o e)
end
end Tc
/-! Exceptions as values, tracked: made, asked for their class, their field read. -/
namespace Tc
open PySem PySem.Spec PyProof.Rows L2
section
variable {X : Cx} {pins : List (Addr × Obj)} {σ : L2.St} {H : Hp} {C fI e d : Addr} {B newId initId : String}
  {bmB : List Value} {fld qual : Str} {fd : FuncData} {v : V} {u : Value}
theorem relO_one (rv : RelV v u) (f : Str) : RelO (List.lookup f [(fld, v)]) (if f = fld then some u else none) :=
  relO_put (fs := []) (mA := fun _ => none) rv (fun _ => True.intro) f
variable {x : Str} {p pos : Pos} {ee : Expr} {te : TE} {k : Nat}
/-- what isinstance and a field's read ask of an exception's class -/
structure ExA (K : PySem.W.Frag) (C : Addr) : Prop where
  ga : PySem.W.findIn K (.ref C) "__getattribute__" = some (some (.builtin "BaseException.__getattribute__"))
  gg : PySem.W.findIn K (.ref C) "__getattr__" = some none
  ex : PySem.W.subIn K (.ref C) (.type "BaseException") = some true
  own : PySem.W.hasDictIn K C = true
  kc : PySem.W.findIn K (.ref C) "__class__" = some (some (.builtin "object.__class__"))
  sn : PySem.W.specialIn K (.builtin "object.__class__") "__get__" = some (some (.builtin "getset_descriptor.__get__"))
  tk : PySem.W.takesIn K (.builtin "object.__class__") = some true
  mo : PySem.W.mroIn K C (.type "object") = some true
end
end Tc
namespace Tc
open PySem PySem.Spec PyProof.Rows L2
end Tc
/-! The head's facts by one Bool and the functions by their texts; what makes a new exception. -/
namespace Tc
open PySem PySem.Spec PyProof.Rows L2
/-- what objects name: the values of dicts, the names of classes, the code of functions -/
def valsOf (o : Obj) : List Addr := match o.data with
  | .dict es _ => es.toList.flatMap fun e => He.refV e.val
  | _ => []
def nsOf (o : Obj) : List Addr := match o.data with
  | .cls cd => [cd.ns]
  | _ => []
def codeOf (o : Obj) : List Addr := match o.data with
  | .func fd => He.refV fd.code
  | _ => []
def reach (g : Addr → Option Obj) (f : Obj → List Addr) (as : List Addr) : List Addr := as.flatMap fun a => match g a with
  | some o => f o
  | none => []
/-- the module's names, what they stand for, the classes' names, their methods, the codes of all -/
def adsM (g : Addr → Option Obj) : List Addr :=
  let l1 := reach g valsOf [mainGlobals]
  let l2 := reach g nsOf l1
  let l3 := reach g valsOf l2
  mainGlobals :: sysModules :: (l1 ++ (l2 ++ (l3 ++ reach g codeOf (l1 ++ l3))))
def obsM (F : PySem.W.Frag → Bool) (fn : List He.FnD) (K : PySem.W.Frag) : He.Al :=
  (F K && fn.all fun d => PySem.W.keepIn K (.ref (He.fAd K d.at_)) && (He.Fa.code d.at_ d.qual).ok K, fn.map fun d => He.fnObs K d.at_)
def SaysM (F : PySem.W.Frag → Bool) (fn : List He.FnD) (K : PySem.W.Frag) : Prop := obsM F fn K = He.valE fn
section
variable {F : PySem.W.Frag → Bool} {fn : List He.FnD} {K : PySem.W.Frag}
theorem SaysM.fact (c : SaysM F fn K) : F K = true :=
  (He.ba (congrArg (fun z : He.Al => z.1) c)).1
/-- the def d of the text stands, and is called so -/
theorem SaysM.fun_ (c : SaysM F fn K) (i : Nat) {st : Stmt} {p : Str × Option Str} {x q : Str}
    (h : fn[i]? = some ⟨p, x, q, defArgs st, defBody st, defScope st⟩ := by rfl) :
    ∃ fd, Fun K x q st (He.fAd K p) fd := by
  have c1 := (He.ba (show (F K && fn.all fun d => PySem.W.keepIn K (.ref (He.fAd K d.at_)) && (He.Fa.code d.at_ d.qual).ok K) = true from
    congrArg (fun z : He.Al => z.1) c)).2
  have c2 := List.all_eq_true.mp c1 _ (List.mem_of_getElem? h)
  obtain ⟨kp, cd⟩ := He.ba c2
  have e : fn.map (fun d => He.fnObs K d.at_) = fn.map He.FnD.val := congrArg (fun z : He.Al => z.2) c
  have e2 : (fn.map fun d => He.fnObs K d.at_)[i]? = (fn.map He.FnD.val)[i]? := by rw [e]
  rw [List.getElem?_map, List.getElem?_map, h] at e2
  obtain ⟨oc, od, osl, kV, doc, pm, an, cdv, ct, lk, hc⟩ := He.fn_ok (Option.some.inj e2) cd
  exact ⟨_, fun_mk lk hc kp⟩
end
/-- a statement, then the rest, a word between them -/
def tMid (t u : TS) : TS := fun D σ H => ∃ M : L2.St → Hp → Prop, t { D with nx := M } σ H ∧ ∀ σ' H', M σ' H' → u D σ' H'
theorem pss_mid {X : Cx} {st : Stmt} {rest : List Stmt} {t u : TS} (h1 : PS X st t) (h2 : PSs X rest u) : PSs X (st :: rest) (tMid t u) := by
  constructor
  intro pins s σ H D I h
  obtain ⟨M, hm, hu⟩ := h
  refine wpAny_execs_cons (thn (h1.run pins s σ H { D with nx := M } I hm) ?_)
  intro f s1 q
  cases f with
  | next =>
    obtain ⟨σ', H', I', q⟩ := q
    exact h2.run pins s1 σ' H' D I' (hu σ' H' q)
  | ret v | brk | cont => exact q
/-- a def by its name: what it keeps, how it is called -/
structure Call (P : Program) (w : World) (K : PySem.W.Frag) (mg : Str → Option Value) (base : Heap) (CX : CXT)
    (k : Nat) (x : Str) (ps : List Str) (sp : Sp) : Prop where
  ex : ∃ f fd, FnG P w K mg base CX k f fd ps sp ∧ mg x = some (.ref f) ∧ PySem.W.keepIn K (.ref f) = true ∧ Binds K fd ps []
section
variable {X : Cx} {CX : CXT} {k : Nat} {ps : List Str} {sp : Sp} {E : XK} {x : Str} {p pos : Pos} {e : Expr} {es : List Expr} {t : TA}
theorem pe_do (F : Call X.prog X.w X.K X.mg X.base CX k x ps sp) (hr : Room k X.A)
    (hgd : X.A.guards = some []) (hg : Gl X x) (hx : Passes CX X E) (ha : PA X (e :: es) t)
    (hdb : (x == ("__debug__" : Str)) = false := by decide)
    (he : starEach (e :: es) X.env = (false, eval e X.env) :: starEach es X.env := by rfl)
    (hpl : (backTo pos (starEach es X.env)).any (·.1) = false := by rfl) :
    PE X (.Call (.Name x p) (e :: es) [] pos) (tCall sp [] E t) := by
  obtain ⟨f, fd, G, hm, hk, hb⟩ := F.ex
  exact pe_callG G hr hgd hg hm hk hb .nil hx ha hdb he hpl
end
/-- what a class like «class X(BASE): def __init__(self, FLD): self.FLD = FLD» needs to be made -/
structure NewAble (K : PySem.W.Frag) (mg : Str → Option Value) (x fld : Str) (C : Addr) : Prop where
  ex : ∃ (fI : Addr) (B newId initId : String) (bmB : List Value) (qual : Str) (fd : FuncData),
    ExK K C fI B newId initId bmB fld ∧ FieldName fld ∧ InitDef K fI qual fld fd ∧
    (∀ (u : Value) (s : Shared) (y : Addr), BindsTo s fd ⟨[.ref y, u], []⟩ [("self", .ref y), (fld, u)]) ∧
    ∀ (u : Value) (s : Shared) (y : Addr), BindsTo s fd ⟨[.ref y], [(fld, u)]⟩ [("self", .ref y), (fld, u)]
  gm : mg x = some (.ref C)
/-! ### the facts of an exception class, told by a Bool -/
/-- the three bases: the built-in class under which a class stands -/
inductive Kin where
  | v | l | a
def Kin.B : Kin → String
  | .v => "ValueError"
  | .l => "LookupError"
  | .a => "ArithmeticError"
def Kin.new : Kin → String
  | .v => "ValueError.__new__"
  | .l => "LookupError.__new__"
  | .a => "ArithmeticError.__new__"
def Kin.ini : Kin → String
  | .v => "ValueError.__init__"
  | .l => "LookupError.__init__"
  | .a => "ArithmeticError.__init__"
def Kin.mro (k : Kin) : List Value := [.type k.B, .type "Exception", .type "BaseException", .type "object"]
theorem Kin.base : ∀ k : Kin, ExcBaseFacts k.B k.new k.ini k.mro
  | .v => PySem.F.excBase_ValueError
  | .l => PySem.F.excBase_LookupError
  | .a => PySem.F.excBase_ArithmeticError
theorem Kin.store : ∀ k : Kin, StoreFacts k.B k.mro "object.__setattr__" "object"
  | .v => PySem.F.store_ValueError
  | .l => PySem.F.store_LookupError
  | .a => PySem.F.store_ArithmeticError
def exkB (K : PySem.W.Frag) (k : Kin) (x fld : Str) : Bool :=
  let C := He.ga K x
  PySem.W.excInitIn K C k.mro k.new && (PySem.W.excOver K C k.mro && (PySem.W.hasDictIn K C &&
  (He.eqO (PySem.W.findIn K (.ref C) "__setattr__") (some (some (.builtin "object.__setattr__"))) &&
  (He.eqO (PySem.W.takerIn K C fld) (some none) && (He.eqO (PySem.W.findIn K (.ref C) fld) (some none) &&
  (He.eqO (PySem.W.findIn K (.ref C) "__init__") (some (some (.ref (He.ma K C "__init__")))) &&
  (decide (PySem.W.typeIn K (.ref (He.ma K C "__init__")) = some (.type "function")) && PySem.W.keepIn K (.ref C))))))))
theorem exkB_ok {K : PySem.W.Frag} {k : Kin} {x fld : Str} (h : exkB K k x fld = true) :
    ExK K (He.ga K x) (He.ma K (He.ga K x) "__init__") k.B k.new k.ini k.mro fld := by
  obtain ⟨h1, h⟩ := He.ba h
  obtain ⟨h2, h⟩ := He.ba h
  obtain ⟨h3, h⟩ := He.ba h
  obtain ⟨h4, h⟩ := He.ba h
  obtain ⟨h5, h⟩ := He.ba h
  obtain ⟨h6, h⟩ := He.ba h
  obtain ⟨h7, h⟩ := He.ba h
  obtain ⟨h8, h9⟩ := He.ba h
  exact ⟨k.base, k.store, h1, h2, h3, He.eqO_ok h4, He.eqO_ok h5, He.eqO_ok h6, He.eqO_ok h7, of_decide_eq_true h8, h9⟩
def exaB (K : PySem.W.Frag) (x : Str) : Bool :=
  let C := He.ga K x
  He.eqO (PySem.W.findIn K (.ref C) "__getattribute__") (some (some (.builtin "BaseException.__getattribute__"))) &&
  (He.eqO (PySem.W.findIn K (.ref C) "__getattr__") (some none) &&
  (decide (PySem.W.subIn K (.ref C) (.type "BaseException") = some true) && (PySem.W.hasDictIn K C &&
  (He.eqO (PySem.W.findIn K (.ref C) "__class__") (some (some (.builtin "object.__class__"))) &&
  decide (PySem.W.mroIn K C (.type "object") = some true)))))
def exsB (K : PySem.W.Frag) : Bool :=
  He.eqO (PySem.W.specialIn K (.builtin "object.__class__") "__get__") (some (some (.builtin "getset_descriptor.__get__"))) &&
  decide (PySem.W.takesIn K (.builtin "object.__class__") = some true)
theorem exaB_ok {K : PySem.W.Frag} {x : Str} (h : exaB K x = true) (s : exsB K = true) : ExA K (He.ga K x) := by
  obtain ⟨h1, h⟩ := He.ba h
  obtain ⟨h2, h⟩ := He.ba h
  obtain ⟨h3, h⟩ := He.ba h
  obtain ⟨h4, h⟩ := He.ba h
  obtain ⟨h5, h6⟩ := He.ba h
  obtain ⟨s1, s2⟩ := He.ba s
  exact ⟨He.eqO_ok h1, He.eqO_ok h2, of_decide_eq_true h3, h4, He.eqO_ok h5, He.eqO_ok s1, of_decide_eq_true s2, of_decide_eq_true h6⟩
/-- its __init__, of the text st -/
theorem init_of {K : PySem.W.Frag} {f : Addr} {fd : FuncData} {qual fld : Str} {st : Stmt} {q1 q2 q3 q4 : Pos}
    (F : Fun K "__init__" qual st f fd)
    (hb : defBody st = [.Assign [.Attribute (.Name "self" q1) fld q2] (.Name fld q3) q4])
    (hs : defScope st = { kind := .function, names := [("self", .local), (fld, .local)], isGenerator := false, isCoroutine := false, more := [] }) :
    InitDef K f qual fld fd := by
  obtain ⟨oc, od, kV, doc, pm, an, cdv, ct, osl, rfl, lk, hcd⟩ := F.ex
  exact ⟨oc, od, kV, doc, pm, an, cdv, ct, osl, defArgs st, _, q1, q2, q3, q4, by rw [hb, hs], rfl, lk, hcd⟩
end Tc
/-! except (A, B, C) as n. -/
namespace Tc
open PySem PySem.Spec PyProof.Rows L2
theorem flying_on {B : Heap} {l : List Env} {e : Addr} {Z : Obj → Prop} {h h' : Heap} (k : ∀ b o, h.get? b = some o → h'.get? b = some o) (f : HandSPX.FlyingZ B l e Z h) : HandSPX.FlyingZ B l e Z h' := by
  obtain ⟨f1, f2, f3, oe, vs, T, oT, ts, q1, q2, q3, q4, q5, q6, q7, q8, q9⟩ := f
  exact ⟨fun b o z => k b o (f1 b o z), f2, f3.of_keeps (fun b o z _ => ⟨o, k b o z, rfl⟩), oe, vs, T, oT, ts, k _ _ q1, q2, q3, q4, q5, q6, k _ _ q7, q8, q9⟩
/-- what such a clause wishes: it takes whatever comes -/
def wAs3 (K : PySem.W.Frag) (cs : List Value) (i : Nat) (ts : Addr → Value → Option Addr → TS) (D : Ends) : WX := fun cls d σ H =>
  PySem.W.exmAny K cls cs = some true ∧ ∀ a, H a = none →
    ts a cls d { nx := fun σ' H' => D.nx (σ'.set i none) H', rt := D.rt, bk := fun σ' H' => D.bk (σ'.set i none) H', ct := fun σ' H' => D.ct (σ'.set i none) H' } (σ.set i (some (.ref a))) H
section
variable {X : Cx} {x1 x2 x3 n : Str} {c1 c2 c3 : Value} {i kk : Nat} {body suite : List Stmt} {b₀ : Stmt} {p1 p2 p3 tp pos pos' : Pos} {tb : WX → TS} {ts : Addr → Value → Option Addr → TS}
theorem ps_try_as3 (hs : X.stack = X.env :: X.outer) (hf : X.env.frame = some X.env.locals) (hN : X.N.Nodup) (hi : X.N[i]? = some n) (hln : X.env.kindOf n = some .local)
    (g1 : Gl X x1) (m1 : X.mg x1 = some c1) (g2 : Gl X x2) (m2 : X.mg x2 = some c2) (g3 : Gl X x3) (m3 : X.mg x3 = some c3)
    (hb : ∀ (W : WX) (pn : List (Addr × Obj)) (xe : Value → Shared → Prop), Takes (X.tr pn xe) W → PassesOwn (model X.prog X.w) X.A X.env xe → PSs (X.tr pn xe) body (tb W))
    (hsu : ∀ (a : Addr) (oe : Obj) (cls : Value) (d : Option Addr) (pn : List (Addr × Obj)), Zc cls d oe → (∃ vs, oe.data = .fields vs) → PSs (X.suite a ((a, oe) :: pn)) (b₀ :: suite) (ts a cls d))
    (d1 : (x1 == ("__debug__" : Str)) = false := by decide) (d2 : (x2 == ("__debug__" : Str)) = false := by decide) (d3 : (x3 == ("__debug__" : Str)) = false := by decide) :
    PS X (.Try body [.ExceptHandler (some (.Tuple [.Name x1 p1, .Name x2 p2, .Name x3 p3] kk tp)) (some n) (b₀ :: suite) pos'] [] [] pos) (fun D σ H => tb (wAs3 X.K [c1, c2, c3] i ts D) D σ H) := by
  constructor
  intro pins s σ H D I h
  have ok := I.ok
  have frm : X.A.frames = some (X.env :: X.outer) := by rw [ok.frames, hs]
  refine wpAny_Try_except ?_
  refine wpAny_mono ((hb (wAs3 X.K [c1, c2, c3] i ts D) (X.pn ++ pins)
    (fun e s₁ => wpAny (model X.prog X.w) X.A (noteFrame e X.env)
      (fun _ s₂ => wpAny (model X.prog X.w) X.A (setFlight e none)
        (fun _ s₃ => wpAny (model X.prog X.w) X.A (handleBy e X.env [.ExceptHandler (some (.Tuple [.Name x1 p1, .Name x2 p2, .Name x3 p3] kk tp)) (some n) (b₀ :: suite) pos']) (SP X pins D) X.xe s₃)
        X.xe s₂) X.xe s₁)
    (fun u s' xx => ?_) PassesOwn.looking).run [] s σ H D (I.toTry _) h) (fun f s1 hsp => ?_) (fun e s1 he => he)
  · obtain ⟨a, B, sI, pins', σ', H', cls, d, rfl, J', nb, up, sky, na, os, ag, hb1, hyes⟩ := xx
    have J : Inv X pins σ' H' sI := J'.ofTry ok
    rw [hs] at sky
    show wpAny (model X.prog X.w) X.A (noteFrame (.ref a) X.env) _ _ _
    refine Sky.land Zc.steady frm hf sky fun h3 fl3 up3 => ?_
    have J3 : Inv X pins σ' H' { s' with heap := h3 } := J.landed nb fl3.1 (up.trans up3) os ag
    obtain ⟨oe3, vs3, he3, hz3, hd3⟩ := fl3.there
    have nfr : a ∉ frs (X.env :: X.outer) := fun hm => by
      obtain ⟨_, o', e', hnf⟩ := fl3.2.2.1.mem hm
      rw [he3] at e'
      cases e'
      exact hnf _ hd3
    have nL : a ≠ X.env.locals := fun z =>
      nfr (List.mem_filterMap.mpr ⟨X.env, List.mem_cons_self, by rw [hf, z]⟩)
    have nF : a ∉ X.fs := fun hm => by
      obtain ⟨e, he, q⟩ := List.mem_filterMap.mp hm
      exact nfr (List.mem_filterMap.mpr ⟨e, List.mem_cons_of_mem _ he, q⟩)
    have S3 := J3.suite he3 hd3 na nL nF
    refine wpAny_handleBy_cons (codeAny_handlers_test ?_) (by intro q; cases q)
    -- the tuple of classes
    refine wpAny_Tuple_spliced ?_
    have nm : ∀ {x : Str} {c : Value} {p : Pos} {Q : Value → Shared → Prop} {E : Value → Shared → Prop}, Gl X x → X.mg x = some c → (x == ("__debug__" : Str)) = false → Q c { s' with heap := h3 } →
        wpAny (model X.prog X.w) (X.A.mark (some (.ref a))) (eval (.Name x p) X.env) Q E { s' with heap := h3 } := fun hg hm hd q =>
      ld_glob (X := X.suite a ((a, oe3) :: (X.pn ++ pins))) S3 hg hm q hd
    show wpAny _ _ (spliced [(false, eval (.Name x1 p1) X.env), (false, eval (.Name x2 p2) X.env), (false, eval (.Name x3 p3) X.env)]) _ _ _
    refine Calls.spliced_cons (nm g1 m1 d1 (Calls.spliced_cons (nm g2 m2 d2 (Calls.spliced_cons (nm g3 m3 d3 (Calls.spliced_nil ⟨by show 3 ≤ sizeLine; decide, ?_⟩))))))
    have kp : ∀ b o, h3.get? b = some o → (h3.push { cls := .type "tuple", data := .seq [c1, c2, c3].toArray }).get? b = some o := fun b o z => Heap.get?_push_of_some _ z
    have fl3' := flying_on kp fl3
    have up3' := (up.trans up3).trans (Heap.UpToSlots.of_keeps kp)
    have KX : X.K.In (h3.push { cls := .type "tuple", data := .seq [c1, c2, c3].toArray }) := fun b o z => kp b o (J3.kIn b o z)
    have LT : PySem.W.Looks (model X.prog X.w) (h3.push { cls := .type "tuple", data := .seq [c1, c2, c3].toArray }) (typeOf (.ref a)) cls := fun A Q E s k q =>
      wpAny_typeOf_ref (k _ _ (kp _ _ he3)) (by rw [hz3.1]; exact q)
    refine (PySem.W.exm_tup3 (M := model X.prog X.w) (tp := h3.objs.size) KX LT (Heap.get?_push_size _ rfl) hb1).here ?_
    refine codeAny_handlers_suite_as ?_
    refine HandSPX.lands_againZ fl3' fun h4 fl4 up4 => ?_
    have J4 : Inv X pins σ' H' { s' with heap := h4 } := J.landed nb fl4.1 (up3'.trans up4) os ag
    obtain ⟨oe4, vs4, he4, hz4, hd4⟩ := fl4.there
    have S4 := J4.suite he4 hd4 na nL nF
    refine store_ok (X := X.suite a ((a, oe4) :: (X.pn ++ pins))) (v := .ref a) S4 hN hi (.inl hln) rfl (fun s5 S5 => ?_) (.inr hln)
    refine wpAny_mono ((hsu a oe4 cls d (X.pn ++ pins) hz4 ⟨_, hd4⟩).run [] s5 _ H' _ S5 (hyes a na)) (fun f s6 hsp => ?_) (fun _ _ z => False.elim z)
    have out : ∀ {σ6 : L2.St} {H6 : Hp} {Q : Shared → Prop}, Inv (X.suite a ((a, oe4) :: (X.pn ++ pins))) [] σ6 H6 s6 → (∀ s7, Inv X pins (σ6.set i none) H6 s7 → Q s7) →
        wpAny (model X.prog X.w) X.A (do bindName X.env n .none; unbindBehindTheSuite X.env n pos') (fun _ s7 => Q s7) X.xe s6 := fun S6 hq => gone_ok (S6.unsuite ok) hN hi hln hq
    cases f with
    | ret u =>
      obtain ⟨v6, σ6, H6, S6, r6, q6⟩ := hsp
      exact out S6 fun s7 J7 => ⟨_, _, _, J7, r6, q6⟩
    | next | brk | cont =>
      obtain ⟨σ6, H6, S6, q6⟩ := hsp
      exact out S6 fun s7 J7 => ⟨_, _, J7, q6⟩
  · cases f with
    | ret u =>
      obtain ⟨v, σ', H', J', r, q⟩ := hsp
      exact ⟨v, σ', H', J'.ofTry ok, r, q⟩
    | next =>
      obtain ⟨σ', H', J', q⟩ := hsp
      exact wpAny_execs_nil ⟨σ', H', J'.ofTry ok, q⟩
    | brk | cont =>
      obtain ⟨σ', H', J', q⟩ := hsp
      exact ⟨σ', H', J'.ofTry ok, q⟩
end
end Tc
/-! raise X(e), X with its own __init__; what a suite asks of the exception that it holds. -/
namespace Tc
open PySem PySem.Spec PyProof.Rows L2
section
variable {X : Cx} {pins : List (Addr × Obj)} {σ : L2.St} {H : Hp} {C fI e d : Addr} {B newId initId : String}
  {bmB : List Value} {fld qual : Str} {fd : FuncData} {v : V} {u : Value}
/-- behind X(e): the exception itself is not tracked, its dict is -/
theorem made_up {hp h' : Heap} {g : Array GenState} {dr : Drawn} {tk tk' : Nat} {os : OsState}
    (I : Inv X pins σ H ⟨hp, g, dr, tk, os⟩) (M : MadeX hp h' e C d fld u) (rv : RelV v u) :
    H e = none ∧ H d = none ∧ d ≠ e ∧ ∃ G : Heap, Inv X pins σ (upd H d (.xd [(fld, v)])) ⟨G, g, dr, tk', os⟩ ∧ (∀ b o, G.get? b = some o → h'.get? b = some o) ∧ G.get? e = none := by
  have he : H e = none := I.hok.fresh M.new
  have hd : H d = none := I.hok.fresh M.big
  obtain ⟨G, g1, g2⟩ := restrict h' fun b => decide (b ≠ e)
  have gk : ∀ b, b ≠ e → G.get? b = h'.get? b := fun b hb => g1 b (decide_eq_true hb)
  have ge : G.get? e = none := g2 e (by simp)
  have old : ∀ b o, hp.get? b = some o → G.get? b = some o := by
    intro b o q
    have hb : b ≠ e := Nat.ne_of_lt (Nat.lt_of_lt_of_le (Heap.lt_size q) M.new)
    rw [gk b hb]
    exact M.keep b o q
  have one : ObjOk X.prog X.w (upd H d (.xd [(fld, v)])) G d (.xd [(fld, v)]) := by
    refine ⟨fun y => if y = fld then some u else none, M.ns.at fun o q => (gk d M.dne).trans q, relO_one rv⟩
  refine ⟨he, hd, M.dne, G, I.laid (t' := tk') old M.big one, fun b o q => ?_, ge⟩
  by_cases hb : b = e
  · rw [hb, ge] at q
    cases q
  · exact (gk b hb).symm.trans q
/-- raise's X(e) -/
def tMkX (C : Addr) (fld : Str) (te : TE) : L2.St → Hp → XK → Prop := fun σ H Q => te σ H fun v H1 => ∀ d, H1 d = none → Q (.ref C) (some d) (upd H1 d (.xd [(fld, v)]))
variable {x : Str} {p pos : Pos} {ee : Expr} {te : TE} {k : Nat}
theorem pmk_newX (N : NewAble X.K X.mg x fld C) (hE : PySem.W.subIn X.K (.ref C) (.type "BaseException") = some true) (hT : PySem.W.typeIn X.K (.ref C) = some (.type "type"))
    (hr : Room k X.A) (hg : Gl X x) (he : PE X ee te)
    (hs : starEach [ee] X.env = (false, eval ee X.env) :: starEach [] X.env := by rfl)
    (hdb : (x == ("__debug__" : Str)) = false := by decide) :
    PMk X (.Call (.Name x p) [ee] [] pos) (tMkX C fld te) := by
  obtain ⟨fI, B, newId, initId, bmB, qual, fd, Z, fn, D, b1, b2⟩ := N.ex
  intro pins s σ H Q I h
  refine wpAny_Call_Name_kw (ld_glob I hg N.gm ?_ hdb)
  refine PySem.W.callWith_K (h₀ := X.base) I.ok.mod.kin Z.kp ?_ hs (by rfl)
  rw [hs]
  show wpAny _ _ (spliced ((false, eval ee X.env) :: backTo pos (starEach [] X.env))) _ _ s
  refine Calls.spliced_cons (thn (he.run pins s σ H _ I h) ?_)
  rintro u s1 ⟨v, H1, I1, r1, q1⟩
  refine Calls.spliced_nil ⟨I1.kIn, ?_⟩
  obtain ⟨hp, g, dr, tk, os⟩ := s1
  refine wpAny_call (made_run (rest := [u]) (kw := []) Z fn D I1.kIn I1.nolimit (by have := hr.dp; omega) (by rw [sizeLine_eq]; show 1 ≤ 16777216; decide) (fun s y => b1 u s y) ?_)
  intro h' tk' e d M
  obtain ⟨he', hd', ne, G, J, kG, ge⟩ := made_up (tk' := tk') I1 M r1
  obtain ⟨t1, hob⟩ := M.obj
  exact ⟨e, _, _, ⟨G, g, dr, tk', os⟩, _, .ref C, some d, rfl, J, kG, ge, hob, ⟨rfl, rfl⟩, rfl, rfl, by rw [upd_ne ne.symm]; exact he', rfl, I1.bare, raises_own hE hT, q1 d hd'⟩
end
end Tc
/-! xs.count(b), xs a list of bools. -/
namespace Tc
open PySem PySem.Spec PyProof.Rows L2
def eqb (b : Bool) (v : Value) : Bool := match v with
  | .bool c => c == b
  | _ => false
/-- xs.count(b) -/
def rCntB (K : PySem.W.Frag) : V → List V → Hp → VK → Prop := fun x xs H Q => ∃ (p : Addr) (bs : List Bool) (b : Bool), x = .ref p ∧ xs = [.bl b] ∧ SqL K H p (bs.map V.bl) ∧ Q (.int (bs.count b : Nat)) H
theorem bools_are : ∀ {bs : List Bool} {us : List Value}, Vals (bs.map V.bl) us → us = bs.map Value.bool
  | [], _, h => by cases h; rfl
  | b :: bs, _, h => by
    cases h with
    | cons h1 h2 =>
      have e1 : _ = Value.bool b := h1
      rw [e1, bools_are h2]
      rfl
theorem mt_countB {X : Cx} : MtR X "list.count" (rCntB X.K) := by
  intro pins s σ H x xs v us Q I rx rxs h
  obtain ⟨p, bs, b, rfl, rfl, hs, q⟩ := h
  cases rx
  obtain ⟨u, rfl, ru⟩ := rxs.one
  obtain rfl : u = Value.bool b := ru
  obtain ⟨its, rv, ⟨⟨cls, dd, data, sl⟩, n, ho, hc, hdn, hd⟩, hlen⟩ := I.list hs
  simp only at hc hd
  subst hc hd
  obtain rfl := bools_are rv
  refine call_meets PySem.F.slot_list_count ⟨_, ho, rfl⟩ PySem.F.entry_list_count (PySem.F.args_list_count_2 _ _)
    (SeqAt.list_countAt p (bs.map Value.bool).toArray n dd sl (.bool b) (eqb b)) ⟨ho, fun y hy => ?_, ?_⟩
  · have hy : y ∈ bs.map Value.bool := by simpa using hy
    obtain ⟨c, _, rfl⟩ := List.mem_map.mp hy
    exact SeqAt.EqAt.bool_bool c b
  · have ec : (bs.map Value.bool).toArray.toList.countP (eqb b) = bs.count b := by
      show (bs.map Value.bool).countP (eqb b) = _
      rw [List.countP_map] <;> rfl
    refine ⟨.int (bs.count b : Nat), H, I.tok _, ⟨s.toks, ?_⟩, q⟩
    show Value.int _ s.toks = Value.int _ s.toks
    rw [ec]
end Tc
namespace Tc
open PySem PySem.Spec PyProof.Rows L2
mutual
theorem Dv.mono {H H' : Hp} (s : Same H H') : ∀ {v : V} {d : PyData}, Dv H v d → Dv H' v d
  | _, _, .non => .non
  | _, _, .bl b => .bl b
  | _, _, .int i => .int i
  | _, _, .str x => .str x
  | _, _, .lst h a => .lst (h.elim (fun z => .inl (s _ _ z)) fun ⟨o, z⟩ => .inr ⟨o, s _ _ z⟩) (DvAll.mono s a)
  | _, _, .tup h a => .tup (h.elim (fun z => .inl (s _ _ z)) fun ⟨o, z⟩ => .inr ⟨o, s _ _ z⟩) (DvAll.mono s a)
  | _, _, .dct h a => .dct (h.elim (fun z => .inl (s _ _ z)) fun ⟨o, z⟩ => .inr ⟨o, s _ _ z⟩) (DvKv.mono s a)
theorem DvAll.mono {H H' : Hp} (s : Same H H') : ∀ {vs : List V} {ds : List PyData}, DvAll H vs ds → DvAll H' vs ds
  | _, _, .nil => .nil
  | _, _, .cons a b => .cons (Dv.mono s a) (DvAll.mono s b)
theorem DvKv.mono {H H' : Hp} (s : Same H H') : ∀ {kvs : List (Key × V)} {ds : List (PyData × PyData)}, DvKv H kvs ds → DvKv H' kvs ds
  | _, _, .nil => .nil
  | _, _, .cons a b => .cons (Dv.mono s a) (DvKv.mono s b)
end
theorem Same.new {H : Hp} {p : Addr} {o : HO} (h : H p = none) : Same H (upd H p o) := fun b u e => by
  rw [upd_ne (ne_of_none e h)]
  exact e
/-- data that repr shows -/
def Good (d : PyData) : Prop := d.showable = true ∧ d.depth ≤ 100 ∧ d.shown.length ≤ sizeLine
instance (d : PyData) : Decidable (Good d) := by unfold Good; exact inferInstance
/-- a def's call, told by what it keeps -/
theorem Call.of {P : Program} {w : World} {K : PySem.W.Frag} {mg : Str → Option Value} {base : Heap} {CX : CXT} {k : Nat} {x qual : Str} {st : Stmt} {f : Addr} {fd : FuncData} {ps : List Str} {sp : Sp}
    (F : Fun K x qual st f fd) (G : FnG P w K mg base CX k f fd ps sp) (gm : mg x = some (.ref f))
    (h : ∀ (kV doc pm : Value) (an : Option Addr) (cdv ct : Value) (us : List Value), us.length = ps.length → bindArgs (PySem.W.fnOf x qual (defArgs st) (defBody st) (defScope st) .none kV doc pm an cdv ct) ⟨us, []⟩ = pure (ps.zip us)) :
    Call P w K mg base CX k x ps sp := ⟨f, fd, G, gm, F.kp, F.binds h⟩
end Tc
namespace Tc
open PySem PySem.Spec PyProof.Rows L2 Evl
/-- the lists at ps -/
inductive LL (H : Hp) : List Addr → List (List V) → Prop
  | nil : LL H [] []
  | snoc {ps : List Addr} {xss : List (List V)} {p : Addr} {xs : List V} : LL H ps xss → H p = some (.lst xs) → LL H (ps ++ [p]) (xss ++ [xs])
theorem LL.mono {H H' : Hp} : ∀ {ps : List Addr} {xss : List (List V)}, LL H ps xss → (∀ p ∈ ps, ∀ o, H p = some o → H' p = some o) → LL H' ps xss
  | _, _, .nil, _ => .nil
  | _, _, .snoc r h, s => .snoc (r.mono fun p hp => s p (List.mem_append_left _ hp)) (s _ (by simp) _ h)
theorem Call.mono {P : Program} {w : World} {K : PySem.W.Frag} {mg : Str → Option Value} {base : Heap} {CX : CXT} {j k : Nat} {x : Str} {ps : List Str} {sp : Sp} (F : Call P w K mg base CX j x ps sp) (h : j ≤ k) : Call P w K mg base CX k x ps sp := by
  obtain ⟨f, fd, G, r⟩ := F.ex
  exact ⟨f, fd, G.mono h, r⟩
/-- a whole number of the module -/
theorem pe_num {X : Cx} {x : Str} {n : Int} {p : Pos} (h : ∃ t, X.mg x = some (.int n t)) (hg : Gl X x) (hd : (x == ("__debug__" : Str)) = false := by decide) : PE X (.Name x p) (tC (.int n)) := by
  obtain ⟨t, e⟩ := h
  exact pe_glob hg e ⟨_, rfl⟩ hd
end Tc
/-! a op b op c op d; which class data are of. -/
namespace Tc
open PySem PySem.Spec PyProof.Rows L2
/-- the class of data -/
def tyD : PyData → String
  | .none => "NoneType"
  | .bool _ => "bool"
  | .int _ => "int"
  | .str _ => "str"
  | .list _ => "list"
  | .tuple _ => "tuple"
  | .dict _ => "dict"
theorem Dv.ty {K : PySem.W.Frag} {H : Hp} {v : V} {d : PyData} (h : Dv H v d) : TyX K H v (.type (tyD d)) := by
  cases h with
  | non => exact .base .non
  | bl b => exact .base (.bl b)
  | int i => exact .base (.int i)
  | str x => exact .base (.str x)
  | lst h _ => exact h.elim (fun h => .base (.lst h)) fun ⟨o, h⟩ => .base (.frz h)
  | tup h _ => exact h.elim (fun h => .base (.tup h)) fun ⟨o, h⟩ => .fTuple h
  | dct h _ => exact h.elim (fun h => .base (.dK h)) fun ⟨o, h⟩ => .fDict h
/-- isinstance of two built-in classes -/
def tyIs (a b : String) : Bool := (Value.type a == Value.type b) || ((fastBuiltinMro a).map fun l => l.contains (.type b)) == some true
theorem kit_ty {K : PySem.W.Frag} {a b : String} (h : (PySem.W.kitMeta b && (fastBuiltinMro a).isSome) = true) : PySem.W.kitOne K (.type a) (.type b) = some (tyIs a b) := by
  obtain ⟨h1, h2⟩ := Bool.and_eq_true_iff.mp h
  obtain ⟨l, hl⟩ := Option.isSome_iff_exists.mp h2
  unfold PySem.W.kitOne tyIs
  by_cases e : (Value.type a == Value.type b) = true
  · rw [if_pos e, e] <;> rfl
  · rw [if_neg e]
    have e2 : (Value.type a == Value.type b) = false := Bool.eq_false_iff.mpr e
    unfold PySem.W.kitCls
    show (if PySem.W.kitMeta b = true then PySem.W.subIn K (.type a) (.type b) else none) = _
    rw [if_pos h1, e2]
    show (fastBuiltinMro a).map _ = _
    rw [hl]
    show some (l.contains (Value.type b)) = some (false || (some (l.contains (Value.type b)) == some true))
    cases l.contains (Value.type b) <;> rfl
theorem metas : ∀ b ∈ ["int", "bool", "tuple", "str", "list"], ∀ a ∈ ["NoneType", "bool", "int", "str", "list", "tuple", "dict"], (PySem.W.kitMeta b && (fastBuiltinMro a).isSome) = true := by decide +kernel
theorem tyD_mem (d : PyData) : tyD d ∈ ["NoneType", "bool", "int", "str", "list", "tuple", "dict"] := by
  cases d <;> simp [tyD]
/-- isinstance(v, T), v data -/
theorem isi_D {K : PySem.W.Frag} {H : Hp} {v : V} {d : PyData} {T : String} {Q : VK} (h : Dv H v d) (hT : T ∈ ["int", "bool", "tuple", "str", "list"]) (q : Q (.bl (tyIs (tyD d) T)) H) : rIsi K [v, .ty T] H Q :=
  ⟨v, .ty T, _, _, _, rfl, .ty T, h.ty, kit_ty (metas T hT _ (tyD_mem d)), q⟩
theorem ty_int : ∀ d : PyData, tyIs (tyD d) "int" = (match d with | .int _ => true | .bool _ => true | _ => false) := by
  have h : tyIs "NoneType" "int" = false ∧ tyIs "bool" "int" = true ∧ tyIs "int" "int" = true ∧ tyIs "str" "int" = false ∧ tyIs "list" "int" = false ∧ tyIs "tuple" "int" = false ∧ tyIs "dict" "int" = false := by decide +kernel
  obtain ⟨h1, h2, h3, h4, h5, h6, h7⟩ := h
  intro d
  cases d <;> simp only [tyD] <;> assumption
theorem ty_bool : ∀ d : PyData, tyIs (tyD d) "bool" = (match d with | .bool _ => true | _ => false) := by
  have h : tyIs "NoneType" "bool" = false ∧ tyIs "bool" "bool" = true ∧ tyIs "int" "bool" = false ∧ tyIs "str" "bool" = false ∧ tyIs "list" "bool" = false ∧ tyIs "tuple" "bool" = false ∧ tyIs "dict" "bool" = false := by decide +kernel
  obtain ⟨h1, h2, h3, h4, h5, h6, h7⟩ := h
  intro d
  cases d <;> simp only [tyD] <;> assumption
theorem ty_tuple : ∀ d : PyData, tyIs (tyD d) "tuple" = (match d with | .tuple _ => true | _ => false) := by
  have h : tyIs "NoneType" "tuple" = false ∧ tyIs "bool" "tuple" = false ∧ tyIs "int" "tuple" = false ∧ tyIs "str" "tuple" = false ∧ tyIs "list" "tuple" = false ∧ tyIs "tuple" "tuple" = true ∧ tyIs "dict" "tuple" = false := by decide +kernel
  obtain ⟨h1, h2, h3, h4, h5, h6, h7⟩ := h
  intro d
  cases d <;> simp only [tyD] <;> assumption
theorem ty_str : ∀ d : PyData, tyIs (tyD d) "str" = (match d with | .str _ => true | _ => false) := by
  have h : tyIs "NoneType" "str" = false ∧ tyIs "bool" "str" = false ∧ tyIs "int" "str" = false ∧ tyIs "str" "str" = true ∧ tyIs "list" "str" = false ∧ tyIs "tuple" "str" = false ∧ tyIs "dict" "str" = false := by decide +kernel
  obtain ⟨h1, h2, h3, h4, h5, h6, h7⟩ := h
  intro d
  cases d <;> simp only [tyD] <;> assumption
theorem DvAll.len {H : Hp} : ∀ {vs : List V} {ds : List PyData}, DvAll H vs ds → vs.length = ds.length
  | _, _, .nil => rfl
  | _, _, .cons _ h => congrArg Nat.succ h.len
end Tc
/-! calls of defs that may stand under a repr, by place and by name. -/
namespace Tc
open PySem PySem.Spec PyProof.Rows L2
/-- as Call, whoever calls -/
structure CallO (P : Program) (w : World) (K : PySem.W.Frag) (mg : Str → Option Value) (base : Heap) (CX : CXT)
    (k : Nat) (x : Str) (ps : List Str) (sp : Sp) : Prop where
  ex : ∃ f fd, FnOk P w K mg base CX k f fd ps sp ∧ mg x = some (.ref f) ∧ PySem.W.keepIn K (.ref f) = true ∧ Binds K fd ps []
theorem CallO.call {P : Program} {w : World} {K : PySem.W.Frag} {mg : Str → Option Value} {base : Heap} {CX : CXT} {k : Nat} {x : Str} {ps : List Str} {sp : Sp}
    (F : CallO P w K mg base CX k x ps sp) : Call P w K mg base CX k x ps sp := by
  obtain ⟨f, fd, G, r⟩ := F.ex
  exact ⟨f, fd, .of G, r⟩
theorem CallO.of {P : Program} {w : World} {K : PySem.W.Frag} {mg : Str → Option Value} {base : Heap} {CX : CXT} {k : Nat} {x qual : Str} {st : Stmt} {f : Addr} {fd : FuncData} {ps : List Str} {sp : Sp}
    (F : Fun K x qual st f fd) (G : FnOk P w K mg base CX k f fd ps sp) (gm : mg x = some (.ref f))
    (h : ∀ (kV doc pm : Value) (an : Option Addr) (cdv ct : Value) (us : List Value), us.length = ps.length → bindArgs (PySem.W.fnOf x qual (defArgs st) (defBody st) (defScope st) .none kV doc pm an cdv ct) ⟨us, []⟩ = pure (ps.zip us)) :
    CallO P w K mg base CX k x ps sp := ⟨f, fd, G, gm, F.kp, F.binds h⟩
end Tc
/-! The head's facts with the tables of defs that make lambdas; the law's end with these, no repr around. -/
namespace Tc
open PySem PySem.Spec PyProof.Rows L2
def frTM (g : Addr → Option Obj) : PySem.W.Frag := He.frT g (adsM g)
structure SaysTM (F : PySem.W.Frag → Bool) (fn : List He.FnD) (tf : List He.Defn) (h : Heap) (K : PySem.W.Frag) : Prop where
  core : SaysM F fn K
  hd : ∀ p ∈ tf, PySem.W.codeHdIn K (He.cT K p).1 (He.cT K p).2 = true
  out : ∀ p ∈ tf, K.lookup (He.cT K p).2 = none
  empty : ∀ p ∈ tf, h.get? (He.cT K p).2 = some { cls := .none, data := .fields #[] }
def obsTM (F : PySem.W.Frag → Bool) (fn : List He.FnD) (tf : List He.Defn) (g : Addr → Option Obj) : He.Al × Bool := (obsM F fn (frTM g), He.tabsB g tf (frTM g))
theorem saysTM_of {F : PySem.W.Frag → Bool} {fn : List He.FnD} {tf : List He.Defn} {h : Heap} (e : obsTM F fn tf h.get? = (He.valE fn, true)) : SaysTM F fn tf h (frTM h.get?) := by
  have e1 : obsM F fn (frTM h.get?) = He.valE fn := congrArg (fun z : He.Al × Bool => z.1) e
  have e2 : He.tabsB h.get? tf (frTM h.get?) = true := congrArg (fun z : He.Al × Bool => z.2) e
  have at_ : ∀ p ∈ tf, PySem.W.codeHdIn (frTM h.get?) (He.cT (frTM h.get?) p).1 (He.cT (frTM h.get?) p).2 = true ∧ ∃ o, h.get? (He.cT (frTM h.get?) p).2 = some o ∧ He.emptyTab o = true := by
    intro p hp
    obtain ⟨a, b⟩ := He.ba (List.all_eq_true.mp e2 p hp)
    refine ⟨a, ?_⟩
    cases q : h.get? (He.cT (frTM h.get?) p).2 with
    | none =>
      rw [q] at b
      cases b
    | some o =>
      rw [q] at b
      exact ⟨o, rfl, b⟩
  refine ⟨e1, fun p hp => (at_ p hp).1, fun p hp => ?_, fun p hp => ?_⟩
  · obtain ⟨_, o, q, z⟩ := at_ p hp
    exact He.frT_none q z
  · obtain ⟨_, o, q, z⟩ := at_ p hp
    rw [q, He.emptyTab_eq z]
def hookTM (F : PySem.W.Frag → Bool) (fn : List He.FnD) (tf : List He.Defn) : PySem.W.Hook where
  α := He.Al × Bool
  obs := fun s => obsTM F fn tf s.heap.get?
  val := fun _ => (He.valE fn, true)
  says := fun _ h => ∃ K : PySem.W.Frag, K.In h ∧ SaysTM F fn tf h K
  of := fun _ _ e => ⟨_, He.frT_in, saysTM_of e⟩
  keeps := fun _ _ _ ⟨K, hK, c⟩ k => ⟨K, PySem.W.Frag.In.keeps hK k, ⟨c.core, c.hd, c.out, fun p hp => k _ _ (c.empty p hp)⟩⟩
theorem obsTM_eq {F : PySem.W.Frag → Bool} {fn : List He.FnD} {tf : List He.Defn} {g : Addr → Option Obj} {s : Shared}
    (h : ∀ a, g a = s.heap.get? a) : obsTM F fn tf g = (hookTM F fn tf).obs s := by
  have e : g = s.heap.get? := funext h
  rw [e] <;> rfl
end Tc
namespace Tc
open PySem PySem.Spec PyProof.Rows L2
section
variable {P : Program} {w : World} {K : PySem.W.Frag} {mg mb : Str → Option Value} {CX : CXT}
  {k : Nat} {fa a : Addr} {cs : List (Addr × Addr)} {fd : FuncData} {x : Str} {sp : Sp} {s₁ : Shared} {vs : List Value} {ns : List Int}
/-- an empty table of code objects -/
abbrev tab0 : Obj := { cls := .none, data := .fields #[] }
abbrev scriptO (vs : List Value) : Obj := { cls := .type "list", data := .seq vs.toArray }
/-- the law's call, from a heap in which the tables and at most the script are tracked -/
theorem callT_from (KX : K.In s₁.heap) (hns : s₁.heap.Ns mainGlobals mg) (hb : s₁.heap.Ns builtinsNs mb)
    (hbb : ∀ y : Str, y ≠ "__name__" → mb y = bootBuiltins y) (hlim : s₁.heap.NoLimit) (hg : s₁.gens = #[])
    (hT : ∀ p ∈ cs, s₁.heap.get? p.2 = some tab0) (nT : ∀ p ∈ cs, K.lookup p.2 = none) (C : ∀ p ∈ cs, PySem.W.CodeHd s₁.heap p.1 p.2)
    (hbm : ∃ (bm : Addr) (ob : Obj), mg "__builtins__" = some (.ref bm) ∧ bm ≠ builtinsNs ∧ s₁.heap.get? bm = some ob ∧ ob.cls = .type "module" ∧ ob.dict = some builtinsNs ∧ ob.data = .plain)
    (ha : s₁.heap.get? a = some (scriptO vs)) (hr : Room k callerA)
    (F : ∀ base : Heap, K.In base → base.Ns mainGlobals mg → (∀ p ∈ cs, LamX.TabB base mg p.1 p.2) → FnG P w K mg base CX k fa fd [x] sp)
    (hbind : ∀ (s : Shared) (u : Value), BindsTo s fd ⟨[u], []⟩ [(x, u)])
    (hCX : ∀ H e s', CX [] H s₁ (fun _ _ _ => False) e s' → False)
    (H : Hp) (hH : ∀ p ∈ cs, H p.2 = some (.tbl #[])) (hO : ∀ b, H b = none ∨ b ∈ cs.map (·.2) ∨ ∃ o xs, H b = some (.frz o (.lst xs)))
    (hsp : sp [.ref a] H (fun v _ => v = .bl true) fun _ _ _ => False)
    (hok : HOk P w H s₁.heap) (hA : ∀ b, H b ≠ none → b = a ∨ b ∈ cs.map (·.2)) (hK : H a ≠ none → K.lookup a = none) :
    codeAny (model P w) callerA (.call (.ref fa) ⟨[.ref a], []⟩) (Behind s₁) s₁ := by
  have tabAt : ∀ b, b ∈ cs.map (·.2) → s₁.heap.get? b = some tab0 := by
    intro b hb
    obtain ⟨p, hp, rfl⟩ := List.mem_map.mp hb
    exact hT p hp
  have hid : ∀ {b : Addr} {o : Obj}, s₁.heap.get? b = some o → H b = none → (hidT s₁.heap H).get? b = some o := fun e n => hidT_get e n
  -- what is neither the script nor a table is not tracked
  have free : ∀ {b : Addr} {o : Obj}, s₁.heap.get? b = some o → (∀ vs n, o.data ≠ .seq vs n) → o.data ≠ .fields #[] → H b = none := by
    intro b o e h1 h2
    cases q : H b with
    | none => rfl
    | some u =>
      rcases hA b (by rw [q]; exact Option.some_ne_none u) with z | z
      · rw [z, ha] at e
        cases e
        exact (h1 _ _ rfl).elim
      · rw [tabAt b z] at e
        cases e
        exact (h2 rfl).elim
  have freeD : ∀ {b : Addr} {o : Obj} {es : Array DictEntry} {ep : Nat}, s₁.heap.get? b = some o → o.data = .dict es ep → H b = none := fun e d =>
    free e (fun vs n z => by rw [d] at z; cases z) (fun z => by rw [d] at z; cases z)
  have names : ∀ {b : Addr} {m : Str → Option Value}, s₁.heap.Ns b m → (hidT s₁.heap H).Ns b m := by
    rintro b m ⟨o, es, ep, e, d, r⟩
    exact ⟨o, es, ep, hid e (freeD e d), d, r⟩
  have written : K.In (hidT s₁.heap H) := by
    intro b o e
    refine hid (KX b o e) ?_
    cases q : H b with
    | none => rfl
    | some u =>
      rcases hA b (by rw [q]; exact Option.some_ne_none u) with z | z
      · rw [z] at e q
        rw [hK (by rw [q]; exact Option.some_ne_none u)] at e
        cases e
      · obtain ⟨p, hp, rfl⟩ := List.mem_map.mp z
        rw [nT p hp] at e
        cases e
  have TB : ∀ p ∈ cs, LamX.TabB (hidT s₁.heap H) mg p.1 p.2 := by
    intro p hp
    have here := hT p hp
    refine ⟨?_, ?_, ?_⟩
    · obtain ⟨o, us, file, tf, flags, tg, inF, text, tt, e1, r1, r2, r3, rest⟩ := C p hp
      refine ⟨o, us, file, tf, flags, tg, inF, text, tt, hid e1 (free e1 (fun vs n z => ?_) fun z => ?_), r1, r2, r3, rest⟩
      · rw [r2] at z
        cases z
      · rw [r2] at z
        cases z
        simp at r3
    · obtain ⟨bm, ob, b1, b2, b3, b4, b5, b6⟩ := hbm
      have nG : bm ≠ mainGlobals := by
        intro q
        obtain ⟨o, es, ep, e, d, _⟩ := hns
        rw [q, e] at b3
        cases b3
        rw [d] at b6
        cases b6
      have nP : bm ≠ p.2 := by
        intro q
        rw [q, here] at b3
        cases b3
        cases b6
      exact ⟨bm, ob, b1, b2, nG, nP, hid b3 (free b3 (fun vs n z => by rw [b6] at z; cases z) (fun z => by rw [b6] at z; cases z)), b4, b5, b6⟩
    · intro z
      obtain ⟨o, es, ep, e, d, _⟩ := hns
      rw [z, here] at e
      cases e
      cases d
  have e0 : Env0 P w K mg (hidT s₁.heap H) callerA [] s₁ H :=
    ⟨rfl, ⟨written, names hns, ⟨mb, names hb, hbb⟩, by obtain ⟨mc, h1, h2⟩ := hlim; exact ⟨mc, names h1, h2⟩⟩, fun b o e => of_hidT e, Nat.le_of_eq (hidT_size _ _), trivial,
      fun b h => (List.not_mem_nil (show b ∈ ([] : List Addr) from h)).elim, hok, .of_eq hg⟩
  have run := (F _ written (names hns) TB).run callerA [] s₁ H ⟨[.ref a], []⟩ [.ref a] [.ref a] _ _ hr rfl e0 (hbind s₁ (.ref a)) (.cons rfl .nil) hsp
  refine codeAny_mono run ?_
  intro r s' h
  rcases r with e | fl
  · exact (hCX H e s' h).elim
  cases fl with
  | next | brk | cont => exact False.elim h
  | ret u =>
    obtain ⟨v, H', os, bare, un, hok', rv, q⟩ := h
    have hv : v = .bl true := q
    subst hv
    have hu : u = Value.bool true := rv
    subst hu
    have old : ∀ b o, b ∉ cs.map (·.2) → s₁.heap.get? b = some o → s'.heap.get? b = some o := by
      intro b o nb e
      cases q : H b with
      | none => exact un.keep b o e q (fun z => nomatch (show b ∈ ([] : List Addr) from z)) (fun z => nomatch z)
      | some u =>
        rcases hO b with z | z | ⟨ob, xs, z⟩
        · rw [q] at z
          cases z
        · exact absurd z nb
        · have now := (hok b _ z).1
          have later := (hok' b _ (un.frzs b ob _ z)).1
          rw [e] at now
          cases now
          exact later
    have grown : ∀ p ∈ cs, ∃ more : Array Value, s'.heap.get? p.2 = some { cls := .none, data := .fields more } := by
      intro p hp
      obtain ⟨more, z⟩ := un.tbls p.2 #[] (hH p hp)
      exact ⟨_, hok' p.2 _ z⟩
    refine ⟨rfl, ⟨fun b o e => ?_, fun b o e => ?_⟩, os, bare⟩
    · by_cases hb : b ∈ cs.map (·.2)
      · obtain ⟨p, hp, rfl⟩ := List.mem_map.mp hb
        obtain ⟨more, hm⟩ := grown p hp
        rw [hT p hp] at e
        cases e
        exact .inr (.inl ⟨((C p hp).tab (hT p hp)).isCodeTable, rfl, #[], more, rfl, by rw [Array.empty_append]; exact hm⟩)
      · exact .inl (old b o hb e)
    · by_cases hb : b ∈ cs.map (·.2)
      · obtain ⟨p, hp, rfl⟩ := List.mem_map.mp hb
        obtain ⟨more, hm⟩ := grown p hp
        exact ⟨_, hm⟩
      · exact ⟨o, old b o hb e⟩
/-- the law's call -/
theorem law_callTG (KX : K.In s₁.heap) (hns : s₁.heap.Ns mainGlobals mg) (hb : s₁.heap.Ns builtinsNs mb)
    (hbb : ∀ y : Str, y ≠ "__name__" → mb y = bootBuiltins y) (hlim : s₁.heap.NoLimit) (hg : s₁.gens = #[])
    (hT : ∀ p ∈ cs, s₁.heap.get? p.2 = some tab0) (nT : ∀ p ∈ cs, K.lookup p.2 = none) (C : ∀ p ∈ cs, PySem.W.CodeHd s₁.heap p.1 p.2)
    (hbm : ∃ (bm : Addr) (ob : Obj), mg "__builtins__" = some (.ref bm) ∧ bm ≠ builtinsNs ∧ s₁.heap.get? bm = some ob ∧ ob.cls = .type "module" ∧ ob.dict = some builtinsNs ∧ ob.data = .plain)
    (ha : s₁.heap.get? a = some (scriptO vs)) (hi : IntsAre vs ns) (hl : ns.length ≤ sizeLine) (hr : Room k callerA)
    (F : ∀ base : Heap, K.In base → base.Ns mainGlobals mg → (∀ p ∈ cs, LamX.TabB base mg p.1 p.2) → FnG P w K mg base CX k fa fd [x] sp)
    (hbind : ∀ (s : Shared) (u : Value), BindsTo s fd ⟨[u], []⟩ [(x, u)])
    (hsp : ∀ H : Hp, (∀ p ∈ cs, H p.2 = some (.tbl #[])) → SqL K H a (ns.map V.int) → sp [.ref a] H (fun v _ => v = .bl true) fun _ _ _ => False)
    (hCX : ∀ H e s', CX [] H s₁ (fun _ _ _ => False) e s' → False) :
    codeAny (model P w) callerA (.call (.ref fa) ⟨[.ref a], []⟩) (Behind s₁) s₁ := by
  have rv := vals_ints hi
  have main := fun H hH hO hq => callT_from (sp := sp) KX hns hb hbb hlim hg hT nT C hbm ha hr F hbind hCX H hH hO hq
  have mem : ∀ p ∈ cs, p.2 ∈ cs.map (·.2) := fun p hp => List.mem_map.mpr ⟨p, hp, rfl⟩
  have tabAt : ∀ b, b ∈ cs.map (·.2) → s₁.heap.get? b = some tab0 := by
    intro b hb
    obtain ⟨p, hp, rfl⟩ := List.mem_map.mp hb
    exact hT p hp
  have aT : a ∉ cs.map (·.2) := by
    intro z
    have q := tabAt a z
    rw [ha] at q
    have z' : Data.seq vs.toArray _ = Data.fields #[] := congrArg Obj.data (Option.some.inj q)
    cases z'
  cases hk : K.lookup a with
  | some o =>
    have e := KX a o hk
    rw [ha] at e
    cases e
    let H : Hp := fun b => if b ∈ cs.map (·.2) then some (.tbl #[]) else none
    have on : ∀ {b : Addr}, b ∈ cs.map (·.2) → H b = some (.tbl #[]) := fun hb => if_pos hb
    have off : ∀ {b : Addr}, b ∉ cs.map (·.2) → H b = none := fun hb => if_neg hb
    refine main H (fun p hp => on (mem p hp)) (fun b => ?_) (hsp H (fun p hp => on (mem p hp)) (.inr ⟨_, vs.toArray, _, hk, rfl, rfl, rfl, ?_, by simpa using rv⟩)) (fun b u z => ?_) (fun b z => ?_) (fun z => absurd (off aT) z)
    · by_cases hb : b ∈ cs.map (·.2)
      · exact .inr (.inl hb)
      · exact .inl (off hb)
    · rw [List.size_toArray, hi.length]
      exact hl
    · by_cases hb : b ∈ cs.map (·.2)
      · rw [on hb] at z
        cases z
        exact tabAt b hb
      · rw [off hb] at z
        cases z
    · by_cases hb : b ∈ cs.map (·.2)
      · exact .inr hb
      · exact absurd (off hb) z
  | none =>
    let H : Hp := fun b => if b = a then some (.frz (scriptO vs) (.lst (ns.map V.int))) else if b ∈ cs.map (·.2) then some (.tbl #[]) else none
    have at_a : H a = some (.frz (scriptO vs) (.lst (ns.map V.int))) := if_pos rfl
    have on : ∀ {b : Addr}, b ∈ cs.map (·.2) → H b = some (.tbl #[]) := fun {b} hb => (if_neg (show ¬ b = a from fun z => aT (by rw [← z]; exact hb))).trans (if_pos hb)
    have off : ∀ {b : Addr}, b ≠ a → b ∉ cs.map (·.2) → H b = none := fun n hb => (if_neg n).trans (if_neg hb)
    refine main H (fun p hp => on (mem p hp)) (fun b => ?_) (hsp H (fun p hp => on (mem p hp)) (.inl (.inr ⟨_, at_a⟩))) (fun b u z => ?_) (fun b z => ?_) (fun _ => hk)
    · by_cases n : b = a
      · rw [n]
        exact .inr (.inr ⟨_, _, at_a⟩)
      · by_cases hb : b ∈ cs.map (·.2)
        · exact .inr (.inl hb)
        · exact .inl (off n hb)
    · by_cases n : b = a
      · subst n
        rw [at_a] at z
        cases z
        exact ⟨ha, by rw [List.length_map]; exact hl, vs, _, rv, ha⟩
      · by_cases hb : b ∈ cs.map (·.2)
        · rw [on hb] at z
          cases z
          exact tabAt b hb
        · rw [off n hb] at z
          cases z
    · by_cases n : b = a
      · exact .inl n
      · by_cases hb : b ∈ cs.map (·.2)
        · exact .inr hb
        · exact absurd (off n hb) z
end
/-- the end of a law's row, from a word about the head, with tables -/
theorem walk_endTG {l : PySem.W.OpenLaw} {n k : Nat} {q : Program} {loose : List Str} {XP : (Str → Option Value) → Heap → Prop} {YP : World → Heap → Prop} {d : DefRec} {CX : World → CXT} {x : Str}
    (hm : l.most = some n) (hs : n ≤ sizeLine) (h0 : d.params.defaults = []) (hr : Room k callerA)
    (F : ∀ (w : World) (mg : Str → Option Value) (fa : Addr) (h : Heap), YP w h → h.Ns mainGlobals mg → mg d.name = some (.ref fa) →
      ∃ (K : PySem.W.Frag) (fd : FuncData) (cs : List (Addr × Addr)) (sp : Sp), K.In h ∧ (∀ (s : Shared) (u : Value), BindsTo s fd ⟨[u], []⟩ [(x, u)]) ∧
        ((∀ p ∈ cs, h.get? p.2 = some tab0) ∧ (∀ p ∈ cs, K.lookup p.2 = none) ∧ ∀ p ∈ cs, PySem.W.CodeHd h p.1 p.2) ∧
        (∀ base : Heap, K.In base → base.Ns mainGlobals mg → (∀ p ∈ cs, LamX.TabB base mg p.1 p.2) → FnG l.prog w K mg base (CX w) k fa fd [x] sp) ∧
        ∀ (H : Hp) (a : Addr) (ns : List Int), ns.length ≤ n → (∀ p ∈ cs, H p.2 = some (.tbl #[])) → SqL K H a (ns.map V.int) → sp [.ref a] H (fun v _ => v = .bl true) fun _ _ _ => False)
    (hX : ∀ (w : World) (H : Hp) (s : Shared) (e : Value) (s' : Shared), ¬ CX w [] H s (fun _ _ _ => False) e s') :
    PySem.W.WalkO q loose XP YP l.row.toRowW d [] (fun f vs => PySem.call f vs) := by
  refine Att.attach_callB hm h0 ?_
  intro w s₀ s₁ mg mb fa o pm cd doc a vs ns G Y ho hd hcd hmg hobj hints hlen hbits hg
  obtain ⟨K, fd, cs, sp, KX, hb, ⟨hT, nT, C⟩, hF, hsp⟩ := F w mg fa _ Y G.T.g hmg
  exact law_callTG KX G.T.g G.T.b G.T.builtins G.T.nolimit hg hT nT C G.T.bmain hobj hints (Nat.le_trans hlen hs) hr hF hb
    (fun H hH hS => hsp H a ns hlen hH hS) (fun H e s' => hX w H s₁ e s')
end Tc
/-! Texts of numbers and of stretches: written, cut, read back. -/
namespace Tc
open PySem TL
abbrev val (l : List Nat) : Nat := NumText.digitsVal l
/-! ### cut at the dashes -/
end Tc
/-! Data that repr shows, told by what bounds them. -/
namespace Tc
open PySem PySem.Spec PyProof.Rows L2
structure Fine (d : PyData) (n k : Nat) : Prop where
  lay : d.canLay0 = true
  sh : d.showable = true
  short : d.intsShort 13 = true
  wt : d.weight ≤ n
  dp : d.depth ≤ k
structure FineAll (ds : List PyData) (n k : Nat) : Prop where
  lay : PyData.canLayAll0 ds = true
  sh : PyData.showableAll ds = true
  short : PyData.intsShortAll 13 ds = true
  wt : PyData.weightAll ds ≤ n
  dp : PyData.depthAll ds ≤ k
theorem Fine.good {d : PyData} {n k : Nat} (f : Fine d n k) (hn : n ≤ 1000000) (hk : k ≤ 60) : Good d := by
  refine ⟨f.sh, Nat.le_trans f.dp (by omega), ?_⟩
  have l : PyData.layable0 d = true := by
    unfold PyData.layable0
    have h1 : decide (PyData.depth d ≤ 64) = true := decide_eq_true (Nat.le_trans f.dp (by omega))
    have h2 : decide (PyData.weight d ≤ 2 ^ 20) = true := decide_eq_true (Nat.le_trans f.wt (by omega))
    rw [f.lay, h1, h2]
    rfl
  exact Nat.le_trans (shown_le13 l f.short) (by decide)
theorem Fine.mono {d : PyData} {n k m l : Nat} (f : Fine d n k) (h1 : n ≤ m) (h2 : k ≤ l) : Fine d m l := ⟨f.lay, f.sh, f.short, Nat.le_trans f.wt h1, Nat.le_trans f.dp h2⟩
theorem Fine.non : Fine .none 0 0 := ⟨rfl, rfl, rfl, Nat.le_refl 0, Nat.le_refl 0⟩
theorem Fine.bl (b : Bool) : Fine (.bool b) 0 0 := ⟨rfl, rfl, rfl, Nat.le_refl 0, Nat.le_refl 0⟩
theorem Fine.str {x : Str} (h : x.cps.all (· < 0x110000) = true) : Fine (.str x) x.length 0 := ⟨h, rfl, rfl, Nat.le_refl _, Nat.le_refl 0⟩
theorem Fine.int {i : Int} (h0 : -1 ≤ i) (h1 : i ≤ 100000) : Fine (.int i) 18 0 := by
  have hb : i.natAbs < 2 ^ 17 := by omega
  have lg : i.natAbs.log2 < 17 := by
    by_cases e : i.natAbs = 0
    · rw [e]
      decide
    · exact (Nat.log2_lt e).mpr hb
  refine ⟨rfl, decide_eq_true (by omega), ?_, ?_, Nat.le_refl 0⟩
  · refine decide_eq_true ?_
    show (Str.ofString (toString i)).length ≤ 13
    by_cases z : i = -1
    · rw [z]
      decide
    · exact Nat.le_trans (PyProof.Rows.toString_length_le (by omega) (k := 6) (by decide) (by omega)) (by decide)
  · show (if i == 0 then 0 else i.natAbs.log2 + 1) ≤ 18
    split <;> omega
theorem FineAll.nil {k : Nat} : FineAll [] 0 k := ⟨rfl, rfl, rfl, Nat.le_refl 0, Nat.zero_le k⟩
theorem FineAll.cons {d : PyData} {ds : List PyData} {n m k l : Nat} (f : Fine d n l) (g : FineAll ds m k) (h : l ≤ k) : FineAll (d :: ds) (n + 1 + m) k := by
  refine ⟨?_, ?_, ?_, ?_, ?_⟩
  · show (d.canLay0 && PyData.canLayAll0 ds) = true
    rw [f.lay, g.lay] <;> rfl
  · show (d.showable && PyData.showableAll ds) = true
    rw [f.sh, g.sh] <;> rfl
  · show (d.intsShort 13 && PyData.intsShortAll 13 ds) = true
    rw [f.short, g.short] <;> rfl
  · show d.weight + 1 + PyData.weightAll ds ≤ _
    have := f.wt
    have := g.wt
    omega
  · show max d.depth (PyData.depthAll ds) ≤ k
    have := f.dp
    have := g.dp
    omega
theorem Fine.lst {ds : List PyData} {n k : Nat} (f : FineAll ds n k) : Fine (.list ds) n (k + 1) := ⟨f.lay, f.sh, f.short, f.wt, Nat.succ_le_succ f.dp⟩
theorem Fine.tup {ds : List PyData} {n k : Nat} (f : FineAll ds n k) : Fine (.tuple ds) n (k + 1) := ⟨f.lay, f.sh, f.short, f.wt, Nat.succ_le_succ f.dp⟩
end Tc
/-! list of a text. -/
namespace Tc
open PySem PySem.Spec PyProof.Rows L2 TL
end Tc
/-! A def whose code object is known, for those that make lambdas. -/
namespace Tc
open PySem PySem.Spec PyProof.Rows L2
section
variable {P : Program} {w : World} {K : PySem.W.Frag} {mg : Str → Option Value} {base : Heap}
/-- as Fun.okG, its code object known -/
theorem Fun.okGC {CX : CXT} {x qual : Str} {st : Stmt} {f : Addr} {fd : FuncData} {N ps : List Str}
    {k : Nat} {sp : Sp} {c : Addr} (F : Fun K x qual st f fd) (hcode : fd.code = .ref c) (S : FnScope N ps (defScope st))
    (len : ∀ vs H Q E, sp vs H Q E → vs.length = ps.length)
    (hbody : ∀ (A : Around) (outer : List Env) (s : Shared) (H : Hp) (vs : List V)
      (Q : VK) (E : XK), Room k (A.deeper (envOfC qual (defScope st) s.heap.objs.size f (.ref c))) →
      (A.deeper (envOfC qual (defScope st) s.heap.objs.size f (.ref c))).guards = some [] →
      sp vs H Q E →
      ∃ t, PSs (cxOf CX P w K mg base N qual (defScope st) f (.ref c) A outer s H E) (defBody st) t ∧
        t { nx := fun _ H' => Q .non H', rt := Q } (start N vs) H) :
    FnG P w K mg base CX (k + 1) f fd ps sp := by
  obtain ⟨oc, od, kV, doc, pm, an, cdv, ct, osl, rfl, lk, hcd⟩ := F.ex
  have ec : cdv = .ref c := hcode
  subst ec
  refine ⟨len, ?_⟩
  intro A outer s H args us vs Q E hr hgd e0 hb r hsp
  have vl := len _ _ _ _ hsp
  have kin : K.In s.heap := e0.mod.kin.keeps (fun b o e => (e0.bs b o e).1)
  have nlim : s.heap.NoLimit := e0.mod.nolimit.keeps (fun b o e => (e0.bs b o e).1)
  have kinds : ∀ y ∈ ps.zip us, (defScope st).names.lookup y.1 = some .local ∨
      ((defScope st).names.lookup y.1 = some .cell ∧
        ((cellsFrom (s.heap.objs.size + 1) (defScope st).names []).lookup y.1).isSome = true) := by
    rintro ⟨n, v⟩ hy
    cases S.par n (List.of_mem_zip hy).1 with
    | inl q => exact .inl q
    | inr q => exact .inr ⟨q, PySem.W.cellsFrom_some _ _ _ (.inl q)⟩
  refine codeAny_call_function hr.depth (kin _ _ lk) rfl S.co S.gen rfl
    (PySem.W.codeRec_of kin hcd) (hb _ _ _ _ ?_)
  refine wpAny_newFunctionEnv_cells S.kind kinds (fun env he s1 x => ?_)
  subst he
  refine ⟨nlim.keeps x.toInCall.keep, codeAny_func ?_⟩
  obtain ⟨t, ht, hq⟩ := hbody A outer s H vs Q E (hr.deeper _) hgd hsp
  have I := inv_start (CX := CX) (P := P) (w := w) (mg := mg) (base := base) (E := E) S hr.hd e0 vl r x
  refine wpAny_mono (ht.run [] s1 (start N vs) H _ I hq) (fun fl s' hs => ?_) (fun e s' hs => hs)
  have close : ∀ {σ' : L2.St} {H' : Hp} {v : V} {u : Value},
      Inv (cxOf CX P w K mg base N qual (defScope st) f (.ref c) A outer s H E) [] σ' H' s' →
      RelV v u → Q v H' → CE outer P w H s Q u s' := by
    intro σ' H' v u J rv q
    exact ⟨v, H', J.os, J.bare, J.base, J.hok, rv, q⟩
  cases fl with
  | ret u => obtain ⟨v, σ', H', J, rv, q⟩ := hs; exact close J rv q
  | next => obtain ⟨σ', H', J, q⟩ := hs; exact close (v := V.non) (u := Value.none) J rfl q
  | brk => obtain ⟨_, _, _, q⟩ := hs; exact False.elim q
  | cont => obtain ⟨_, _, _, q⟩ := hs; exact False.elim q
end
end Tc
/-! Data and a list that changes. -/
namespace Tc
open PySem PySem.Spec PyProof.Rows L2
theorem rd_one {H : Hp} {a : Addr} {u w : HO} (h : Rd H a u) (g : Rd H a w) (hu : ∀ o x, u ≠ .frz o x := by exact fun _ _ z => nomatch z) (hw : ∀ o x, w ≠ .frz o x := by exact fun _ _ z => nomatch z) : u = w := by
  rcases h with h | ⟨o, h⟩ <;> rcases g with g | ⟨o2, g⟩ <;> rw [h] at g <;> have e := Option.some.inj g
  · exact e
  · exact absurd e (hu _ _)
  · exact absurd e.symm (hw _ _)
  · cases e
    rfl
mutual
/-- a value is of one data alone -/
theorem Dv.one {H : Hp} : ∀ {v : V} {d e : PyData}, Dv H v d → Dv H v e → d = e
  | _, _, _, .non, h => by cases h; rfl
  | _, _, _, .bl b, h => by cases h; rfl
  | _, _, _, .int i, h => by cases h; rfl
  | _, _, _, .str x, h => by cases h; rfl
  | _, _, _, .lst h r, q => by
    cases q with
    | lst h2 r2 =>
      have e : HO.lst _ = HO.lst _ := rd_one h h2
      cases e
      rw [DvAll.one r r2]
    | tup h2 r2 => exact nomatch (show HO.lst _ = HO.tup _ from rd_one h h2)
    | dct h2 r2 => exact nomatch (show HO.lst _ = HO.dK _ from rd_one h h2)
  | _, _, _, .tup h r, q => by
    cases q with
    | tup h2 r2 =>
      have e : HO.tup _ = HO.tup _ := rd_one h h2
      cases e
      rw [DvAll.one r r2]
    | lst h2 r2 => exact nomatch (show HO.tup _ = HO.lst _ from rd_one h h2)
    | dct h2 r2 => exact nomatch (show HO.tup _ = HO.dK _ from rd_one h h2)
  | _, _, _, .dct h r, q => by
    cases q with
    | dct h2 r2 =>
      have e : HO.dK _ = HO.dK _ := rd_one h h2
      cases e
      rw [DvKv.one r r2]
    | tup h2 r2 => exact nomatch (show HO.dK _ = HO.tup _ from rd_one h h2)
    | lst h2 r2 => exact nomatch (show HO.dK _ = HO.lst _ from rd_one h h2)
theorem DvAll.one {H : Hp} : ∀ {vs : List V} {ds es : List PyData}, DvAll H vs ds → DvAll H vs es → ds = es
  | _, _, _, .nil, h => by cases h; rfl
  | _, _, _, .cons a b, h => by
    cases h with
    | cons a2 b2 => rw [Dv.one a a2, DvAll.one b b2]
theorem DvKv.one {H : Hp} : ∀ {kvs : List (Key × V)} {ds es : List (PyData × PyData)}, DvKv H kvs ds → DvKv H kvs es → ds = es
  | _, _, _, .nil, h => by cases h; rfl
  | _, _, _, .cons a b, h => by
    cases h with
    | cons a2 b2 => rw [Dv.one a a2, DvKv.one b b2]
end
end Tc
/-! Data and tables. -/
namespace Tc
open PySem PySem.Spec PyProof.Rows L2
open LamX (Tabs TabS ExtN CodeO)
mutual
theorem Dv.ext {H H' : Hp} (s : ExtN H H') : ∀ {v : V} {d : PyData}, Dv H v d → Dv H' v d
  | _, _, .non => .non
  | _, _, .bl b => .bl b
  | _, _, .int i => .int i
  | _, _, .str x => .str x
  | _, _, .lst h a => .lst (h.elim (fun z => .inl (s _ _ z fun _ e => nomatch e)) fun ⟨o, z⟩ => .inr ⟨o, s _ _ z fun _ e => nomatch e⟩) (DvAll.ext s a)
  | _, _, .tup h a => .tup (h.elim (fun z => .inl (s _ _ z fun _ e => nomatch e)) fun ⟨o, z⟩ => .inr ⟨o, s _ _ z fun _ e => nomatch e⟩) (DvAll.ext s a)
  | _, _, .dct h a => .dct (h.elim (fun z => .inl (s _ _ z fun _ e => nomatch e)) fun ⟨o, z⟩ => .inr ⟨o, s _ _ z fun _ e => nomatch e⟩) (DvKv.ext s a)
theorem DvAll.ext {H H' : Hp} (s : ExtN H H') : ∀ {vs : List V} {ds : List PyData}, DvAll H vs ds → DvAll H' vs ds
  | _, _, .nil => .nil
  | _, _, .cons a b => .cons (Dv.ext s a) (DvAll.ext s b)
theorem DvKv.ext {H H' : Hp} (s : ExtN H H') : ∀ {kvs : List (Key × V)} {ds : List (PyData × PyData)}, DvKv H kvs ds → DvKv H' kvs ds
  | _, _, .nil => .nil
  | _, _, .cons a b => .cons (Dv.ext s a) (DvKv.ext s b)
end
/-- tables stay where all but a list stays -/
theorem tabs_keep {T : List (Addr × Str)} {H H' : Hp} {a : Addr} {l : List V} (h : Tabs T H) (ha : H a = some (.lst l)) (k : ∀ b o, H b = some o → b ≠ a → H' b = some o) : Tabs T H' := by
  intro p hp
  obtain ⟨ps, h1, h2, h3⟩ := h p hp
  refine ⟨ps, k _ _ h1 (fun z => ?_), h2, fun pos cv hc => ?_⟩
  · rw [z, ha] at h1
    cases h1
  · obtain ⟨c, e1, e2⟩ := h3 pos cv hc
    refine ⟨c, e1, k _ _ e2 fun z => ?_⟩
    rw [z, ha] at e2
    exact nomatch (show HO.lst l = HO.ext _ from Option.some.inj e2)
end Tc
/-! Several clauses, each of them with a name: except A as n .. except B as n. -/
namespace Tc
open PySem PySem.Spec PyProof.Rows L2
end Tc
/-! List comprehensions of any number of clauses, clause by clause. -/
namespace Tc
open PySem PySem.Spec PyProof.Rows L2
end Tc
namespace Tc
open PySem PySem.Spec PyProof.Rows L2
section
variable {X : Cx}
/-- a short text, so many times -/
theorem op_mul_str : OpR X (binaryOp .Mult) (fun x y H Q => ∃ (i : Str) (k : Int), x = .str i ∧ y = .int k ∧ i.length ≤ 16 ∧ -(2 ^ 63) ≤ k ∧ k ≤ 1048576 ∧ Q (.str (Txt.mul i k)) H) := by
  intro pins s σ H x y v u Q I rx ry h
  obtain ⟨i, k, rfl, rfl, h1, h2, h3, q⟩ := h
  obtain ⟨t, rfl⟩ := rx
  obtain ⟨t', rfl⟩ := ry
  exact PySem.W.KXi.mul rfl h1 h2 h3 fun t' k' _ _ => ⟨.str (Txt.mul i k), H, I.tok _, ⟨_, rfl⟩, q⟩
variable {CX : CXT} {k : Nat} {ps : List Str} {sp : Sp} {E : XK} {x : Str} {p pos : Pos}
end
end Tc
/-! Programs on data: what a piece of the program does, told of data alone; the heap is kept by the rules. -/
namespace Px
open PySem PySem.Spec PyProof.Rows L2 Tc
/-! ### the weakest readings -/
section
variable (X : Cx)
@[irreducible] def teW (e : Expr) : TE := fun σ H Q => ∀ (pins : List (Addr × Obj)) (s : Shared), Inv X pins σ H s → wpAny (model X.prog X.w) X.A (eval e X.env) (EP X pins σ Q) X.xe s
@[irreducible] def ttW (e : Expr) : TT := fun σ H Q => ∀ (pins : List (Addr × Obj)) (s : Shared), Inv X pins σ H s → wpAny (model X.prog X.w) X.A (isTrue e X.env (eval e X.env)) (TP X pins σ Q) X.xe s
@[irreducible] def twW (e : Expr) : TT := fun σ H Q => ∀ (whole : Sem Value) (pins : List (Addr × Obj)) (s : Shared), Inv X pins σ H s → wpAny (model X.prog X.w) X.A (isTrue e X.env whole) (TP X pins σ Q) X.xe s
@[irreducible] def taW (es : List Expr) : TA := fun σ H Q => ∀ (pos : Pos) (pins : List (Addr × Obj)) (s : Shared), Inv X pins σ H s → wpAny (model X.prog X.w) X.A (spliced (backTo pos (starEach es X.env))) (AP X pins σ Q) X.xe s
@[irreducible] def tsW (st : Stmt) : TS := fun D σ H => ∀ (pins : List (Addr × Obj)) (s : Shared), Inv X pins σ H s → wpAny (model X.prog X.w) X.A (exec st X.env) (SP X pins D) X.xe s
@[irreducible] def tssW (st : List Stmt) : TS := fun D σ H => ∀ (pins : List (Addr × Obj)) (s : Shared), Inv X pins σ H s → wpAny (model X.prog X.w) X.A (execs st X.env) (SP X pins D) X.xe s
variable {X}
theorem teI {e : Expr} {σ : L2.St} {H : Hp} {Q : VK} (h : ∀ (pins : List (Addr × Obj)) (s : Shared), Inv X pins σ H s → wpAny (model X.prog X.w) X.A (eval e X.env) (EP X pins σ Q) X.xe s) : teW X e σ H Q := by unfold teW; exact h
theorem teE {e : Expr} {σ : L2.St} {H : Hp} {Q : VK} (h : teW X e σ H Q) : ∀ (pins : List (Addr × Obj)) (s : Shared), Inv X pins σ H s → wpAny (model X.prog X.w) X.A (eval e X.env) (EP X pins σ Q) X.xe s := by unfold teW at h; exact h
theorem ttI {e : Expr} {σ : L2.St} {H : Hp} {Q : Bool → Hp → Prop} (h : ∀ (pins : List (Addr × Obj)) (s : Shared), Inv X pins σ H s → wpAny (model X.prog X.w) X.A (isTrue e X.env (eval e X.env)) (TP X pins σ Q) X.xe s) : ttW X e σ H Q := by unfold ttW; exact h
theorem ttE {e : Expr} {σ : L2.St} {H : Hp} {Q : Bool → Hp → Prop} (h : ttW X e σ H Q) : ∀ (pins : List (Addr × Obj)) (s : Shared), Inv X pins σ H s → wpAny (model X.prog X.w) X.A (isTrue e X.env (eval e X.env)) (TP X pins σ Q) X.xe s := by unfold ttW at h; exact h
theorem twI {e : Expr} {σ : L2.St} {H : Hp} {Q : Bool → Hp → Prop} (h : ∀ (whole : Sem Value) (pins : List (Addr × Obj)) (s : Shared), Inv X pins σ H s → wpAny (model X.prog X.w) X.A (isTrue e X.env whole) (TP X pins σ Q) X.xe s) : twW X e σ H Q := by unfold twW; exact h
theorem twE {e : Expr} {σ : L2.St} {H : Hp} {Q : Bool → Hp → Prop} (h : twW X e σ H Q) : ∀ (whole : Sem Value) (pins : List (Addr × Obj)) (s : Shared), Inv X pins σ H s → wpAny (model X.prog X.w) X.A (isTrue e X.env whole) (TP X pins σ Q) X.xe s := by unfold twW at h; exact h
theorem taI {es : List Expr} {σ : L2.St} {H : Hp} {Q : List V → Hp → Prop} (h : ∀ (pos : Pos) (pins : List (Addr × Obj)) (s : Shared), Inv X pins σ H s → wpAny (model X.prog X.w) X.A (spliced (backTo pos (starEach es X.env))) (AP X pins σ Q) X.xe s) : taW X es σ H Q := by unfold taW; exact h
theorem taE {es : List Expr} {σ : L2.St} {H : Hp} {Q : List V → Hp → Prop} (h : taW X es σ H Q) : ∀ (pos : Pos) (pins : List (Addr × Obj)) (s : Shared), Inv X pins σ H s → wpAny (model X.prog X.w) X.A (spliced (backTo pos (starEach es X.env))) (AP X pins σ Q) X.xe s := by unfold taW at h; exact h
theorem tsI {st : Stmt} {D : Ends} {σ : L2.St} {H : Hp} (h : ∀ (pins : List (Addr × Obj)) (s : Shared), Inv X pins σ H s → wpAny (model X.prog X.w) X.A (exec st X.env) (SP X pins D) X.xe s) : tsW X st D σ H := by unfold tsW; exact h
theorem tsE {st : Stmt} {D : Ends} {σ : L2.St} {H : Hp} (h : tsW X st D σ H) : ∀ (pins : List (Addr × Obj)) (s : Shared), Inv X pins σ H s → wpAny (model X.prog X.w) X.A (exec st X.env) (SP X pins D) X.xe s := by unfold tsW at h; exact h
theorem tssI {st : List Stmt} {D : Ends} {σ : L2.St} {H : Hp} (h : ∀ (pins : List (Addr × Obj)) (s : Shared), Inv X pins σ H s → wpAny (model X.prog X.w) X.A (execs st X.env) (SP X pins D) X.xe s) : tssW X st D σ H := by unfold tssW; exact h
theorem tssE {st : List Stmt} {D : Ends} {σ : L2.St} {H : Hp} (h : tssW X st D σ H) : ∀ (pins : List (Addr × Obj)) (s : Shared), Inv X pins σ H s → wpAny (model X.prog X.w) X.A (execs st X.env) (SP X pins D) X.xe s := by unfold tssW at h; exact h
theorem pe_W {e : Expr} : PE X e (teW X e) := ⟨fun pins s _ _ _ I h => teE h pins s I⟩
theorem pt_W {e : Expr} : PT X e (ttW X e) := ⟨fun pins s _ _ _ I h => ttE h pins s I⟩
theorem pw_W {e : Expr} : PW X e (twW X e) := ⟨fun w pins s _ _ _ I h => twE h w pins s I⟩
theorem pa_W {es : List Expr} : PA X es (taW X es) := ⟨fun pos pins s _ _ _ I h => taE h pos pins s I⟩
theorem ps_W {st : Stmt} : PS X st (tsW X st) := ⟨fun pins s _ _ _ I h => tsE h pins s I⟩
theorem pss_W {st : List Stmt} : PSs X st (tssW X st) := ⟨fun pins s _ _ _ I h => tssE h pins s I⟩
theorem pe_of {e : Expr} {t : TE} (p : PE X e t) {σ : L2.St} {H : Hp} {Q : VK} (h : t σ H Q) : teW X e σ H Q := teI fun pins s I => p.run pins s σ H Q I h
theorem pt_of {e : Expr} {t : TT} (p : PT X e t) {σ : L2.St} {H : Hp} {Q : Bool → Hp → Prop} (h : t σ H Q) : ttW X e σ H Q := ttI fun pins s I => p.run pins s σ H Q I h
theorem pw_of {e : Expr} {t : TT} (p : PW X e t) {σ : L2.St} {H : Hp} {Q : Bool → Hp → Prop} (h : t σ H Q) : twW X e σ H Q := twI fun w pins s I => p.run w pins s σ H Q I h
theorem pa_of {es : List Expr} {t : TA} (p : PA X es t) {σ : L2.St} {H : Hp} {Q : List V → Hp → Prop} (h : t σ H Q) : taW X es σ H Q := taI fun pos pins s I => p.run pos pins s σ H Q I h
theorem ps_of {st : Stmt} {t : TS} (p : PS X st t) {D : Ends} {σ : L2.St} {H : Hp} (h : t D σ H) : tsW X st D σ H := tsI fun pins s I => p.run pins s σ H D I h
theorem pss_of {st : List Stmt} {t : TS} (p : PSs X st t) {D : Ends} {σ : L2.St} {H : Hp} (h : t D σ H) : tssW X st D σ H := tssI fun pins s I => p.run pins s σ H D I h
theorem star_cons {e : Expr} {es : List Expr} {env : Env} (h : (match e with | .Starred .. => false | _ => true) = true) : starEach (e :: es) env = (false, eval e env) :: starEach es env := by
  cases e <;> first | rfl | cases h
end
/-! ### what the slots hold -/
/-- nothing that is known; data; this very value; a list that no other slot's data has in it -/
inductive Sl where
  | no
  | d (x : PyData)
  | v (x : V)
  | own (a : Addr) (ds : List PyData)
/-- what stood before (fr), and what of it data may lie in (hs) -/
structure Bas where
  fr : Hp
  hs : Hp
  T : List (Addr × Str) := []
/-- it grows, beside what else stood -/
structure Grow (F Hs Hs' : Hp) : Prop where
  same : Same Hs Hs'
  off : ∀ b, Hs b = none → F b ≠ none → Hs' b = none
theorem Grow.refl (F Hs : Hp) : Grow F Hs Hs := ⟨Same.refl _, fun _ h _ => h⟩
theorem Grow.trans {F H1 H2 H3 : Hp} (a : Grow F H1 H2) (b : Grow F H2 H3) : Grow F H1 H3 := ⟨a.same.trans b.same, fun c h f => b.off c (a.off c h f) f⟩
theorem Grow.mono {F G H1 H2 : Hp} (a : Grow F H1 H2) (h : ∀ b, G b ≠ none → F b ≠ none) : Grow G H1 H2 := ⟨a.same, fun c n f => a.off c n (h c f)⟩
def SlOk (F Hs H : Hp) (o : Option (Option V)) : Sl → Prop
  | .no => True
  | .d x => ∃ v, o = some (some v) ∧ Dv Hs v x
  | .v x => o = some (some x)
  | .own a ds => o = some (some (.ref a)) ∧ F a = none ∧ Hs a = none ∧ ∃ vs, H a = some (.lst vs) ∧ DvAll Hs vs ds
/-- the tables of lambdas stand there, and no data is one of them -/
def TbN (T : List (Addr × Str)) (Hs H : Hp) : Prop := LamX.Tabs T H ∧ ∀ p ∈ T, Hs p.1 = none
/-- neither a table of lambdas nor a code -/
def noTb : HO → Bool
  | .tbl _ => false
  | .ext _ => false
  | _ => true
theorem tabs_put {T : List (Addr × Str)} {H H' : Hp} {a : Addr} {u : HO} (h : LamX.Tabs T H) (hv : H a = some u) (nu : noTb u = true) (k : ∀ b u, H b = some u → b ≠ a → H' b = some u) : LamX.Tabs T H' := fun p hp => by
  obtain ⟨ps, h1, h2, h3⟩ := h p hp
  have n1 : p.1 ≠ a := fun z => by rw [z, hv] at h1; cases h1; cases nu
  exact ⟨ps, k _ _ h1 n1, h2, fun pos cv e => by
    obtain ⟨c, e1, e2⟩ := h3 pos cv e
    have n2 : c ≠ a := fun z => by rw [z, hv] at e2; unfold LamX.CodeO at e2; cases e2; cases nu
    exact ⟨c, e1, k _ _ e2 n2⟩⟩
theorem tab_there {T : List (Addr × Str)} {Hs H : Hp} (h : TbN T Hs H) {p : Addr × Str} (hp : p ∈ T) : ∃ ps, H p.1 = some (.tbl ps) := by
  obtain ⟨ps, h1, _⟩ := h.1 p hp
  exact ⟨ps, h1⟩
theorem tabs_same {T : List (Addr × Str)} {Hs H H' : Hp} (h : TbN T Hs H) (s : Same H H') : TbN T Hs H' := ⟨fun p hp => by
  obtain ⟨ps, h1, h2, h3⟩ := h.1 p hp
  exact ⟨ps, s _ _ h1, h2, fun pos cv e => by
    obtain ⟨c, e1, e2⟩ := h3 pos cv e
    exact ⟨c, e1, s _ _ e2⟩⟩, h.2⟩
theorem tabs_new {T : List (Addr × Str)} {Hs H : Hp} {q : Addr} {o o2 : HO} (h : TbN T Hs H) (hq : H q = none) : TbN T (upd Hs q o) (upd H q o2) := ⟨(tabs_same h (Same.new hq)).1, fun p hp => by
  obtain ⟨ps, e⟩ := tab_there h hp
  have n : p.1 ≠ q := fun z => by rw [z, hq] at e; cases e
  rw [upd_ne n]
  exact h.2 p hp⟩
theorem tabs_step {T : List (Addr × Str)} {Hs H Hs' H' : Hp} (h : TbN T Hs H) (s : Same H H') (g : Grow H Hs Hs') : TbN T Hs' H' := ⟨(tabs_same h s).1, fun p hp => by
  obtain ⟨ps, e⟩ := tab_there h hp
  exact g.off _ (h.2 p hp) (by rw [e]; exact fun z => nomatch z)⟩
theorem tabs_fz {T : List (Addr × Str)} {Hs H : Hp} {a : Addr} {ws : List V} {o : HO} (h : TbN T Hs H) (hv : H a = some (.lst ws)) : TbN T (upd Hs a o) H := ⟨h.1, fun p hp => by
  obtain ⟨ps, e⟩ := tab_there h hp
  have n : p.1 ≠ a := fun z => by rw [z, hv] at e; cases e
  rw [upd_ne n]
  exact h.2 p hp⟩
theorem tabs_updT {T : List (Addr × Str)} {Hs H : Hp} {a : Addr} {u o : HO} (h : TbN T Hs H) (hv : H a = some u) (nu : noTb u = true) : TbN T Hs (upd H a o) := ⟨tabs_put h.1 hv nu fun b u e n => (upd_ne n).trans e, h.2⟩
theorem tabs_upd {T : List (Addr × Str)} {Hs H : Hp} {a : Addr} {ws : List V} {o : HO} (h : TbN T Hs H) (hv : H a = some (.lst ws)) : TbN T Hs (upd H a o) := tabs_updT h hv rfl
theorem tabs_pail {T : List (Addr × Str)} {Hs Hs' H H' : Hp} {a : Addr} {ws : List V} (h : TbN T Hs H) (hv : H a = some (.lst ws)) (k : ∀ b u, H b = some u → b ≠ a → H' b = some u) (g : Grow H Hs Hs') : TbN T Hs' H' := ⟨tabs_put h.1 hv rfl k, fun p hp => by
  obtain ⟨ps, e⟩ := tab_there h hp
  exact g.off _ (h.2 p hp) (by rw [e]; exact fun z => nomatch z)⟩
theorem tabs_nil {Hs H : Hp} : TbN [] Hs H := ⟨fun _ h => (nomatch h), fun _ h => (nomatch h)⟩
structure Sx (B : Bas) (Hs : Hp) (σ : L2.St) (H : Hp) (Γ : List Sl) : Prop where
  fr : Same B.fr H
  gr : Grow B.fr B.hs Hs
  sub : Same Hs H
  len : σ.length = Γ.length
  sl : ∀ (i : Nat) (s : Sl), Γ[i]? = some s → SlOk B.fr Hs H σ[i]? s
  ap : ∀ (i j : Nat) (a : Addr) (ds : List PyData) (b : Addr) (es : List PyData), Γ[i]? = some (.own a ds) → Γ[j]? = some (.own b es) → i ≠ j → a ≠ b
  tb : TbN B.T Hs H
section
variable {B : Bas} {Hs : Hp} {σ : L2.St} {H : Hp} {Γ : List Sl}
theorem Sx.dat (S : Sx B Hs σ H Γ) {i : Nat} {x : PyData} (h : Γ[i]? = some (.d x)) : ∃ v, σ[i]? = some (some v) ∧ Dv Hs v x := S.sl i _ h
theorem Sx.val (S : Sx B Hs σ H Γ) {i : Nat} {x : V} (h : Γ[i]? = some (.v x)) : σ[i]? = some (some x) := S.sl i _ h
theorem Sx.lst (S : Sx B Hs σ H Γ) {i : Nat} {a : Addr} {ds : List PyData} (h : Γ[i]? = some (.own a ds)) : σ[i]? = some (some (.ref a)) ∧ B.fr a = none ∧ Hs a = none ∧ ∃ vs, H a = some (.lst vs) ∧ DvAll Hs vs ds := S.sl i _ h
theorem ne_new {H : Hp} {p b : Addr} {o : HO} (h : H p = none) (e : H b = some o) : b ≠ p := fun z => by rw [z, h] at e; cases e
theorem both {Hs H : Hp} {p : Addr} {o : HO} (s : Same Hs H) : Same (upd Hs p o) (upd H p o) := fun b u e => by
  by_cases z : b = p
  · subst z
    rw [upd_same] at e ⊢
    exact e
  · rw [upd_ne z] at e ⊢
    exact s b u e
/-- the slots stay where the data grow and no list of theirs changes -/
theorem SlOk.mono {F Hs Hs' H H' : Hp} {o : Option (Option V)} {s : Sl} (h : SlOk F Hs H o s) (k : Same Hs Hs') (l : ∀ a ds, s = .own a ds → Hs' a = none ∧ H' a = H a) : SlOk F Hs' H' o s := by
  cases s with
  | no => exact trivial
  | d x =>
    obtain ⟨v, e, d⟩ := h
    exact ⟨v, e, d.mono k⟩
  | v x => exact h
  | own a ds =>
    obtain ⟨e, f, n, vs, hv, hd⟩ := h
    obtain ⟨n', e'⟩ := l a ds rfl
    exact ⟨e, f, n', vs, e'.trans hv, hd.mono k⟩
/-- a new object, to be data -/
theorem Sx.new (S : Sx B Hs σ H Γ) {p : Addr} {o : HO} (hp : H p = none) : Same Hs (upd Hs p o) ∧ Sx B (upd Hs p o) σ (upd H p o) Γ := by
  have hsp := S.sub.free hp
  have k : Same Hs (upd Hs p o) := Same.new hsp
  refine ⟨k, fun b u e => (Same.new hp) b u (S.fr b u e), S.gr.trans ⟨k, fun b n f => ?_⟩, both S.sub, S.len, fun i s h => (S.sl i s h).mono k fun a ds e => ?_, S.ap, tabs_new S.tb hp⟩
  · have : b ≠ p := by
      rintro rfl
      cases q : B.fr b with
      | none => exact f q
      | some u => exact nomatch (S.fr b u q).symm.trans hp
    exact (upd_ne this).trans n
  · subst e
    obtain ⟨_, _, n, vs, hv, _⟩ := S.lst h
    have : a ≠ p := ne_new hp hv
    exact ⟨(upd_ne this).trans n, upd_ne this⟩
/-- a new object that is no data (yet) -/
theorem Sx.aside (S : Sx B Hs σ H Γ) {p : Addr} {o : HO} (hp : H p = none) : Sx B Hs σ (upd H p o) Γ := by
  refine ⟨fun b u e => (Same.new hp) b u (S.fr b u e), S.gr, fun b u e => (Same.new hp) b u (S.sub b u e), S.len, fun i s h => (S.sl i s h).mono (Same.refl _) fun a ds e => ?_, S.ap, tabs_same S.tb (Same.new hp)⟩
  subst e
  obtain ⟨_, _, n, vs, hv, _⟩ := S.lst h
  exact ⟨n, upd_ne (ne_new hp hv)⟩
/-- all slots of the heap go on to another one -/
theorem Sx.step (S : Sx B Hs σ H Γ) {Hs' H' : Hp} (k : Grow H Hs Hs') (s : Same H H') (u : Same Hs' H') : Same Hs Hs' ∧ Sx B Hs' σ H' Γ := by
  refine ⟨k.same, S.fr.trans s, S.gr.trans (k.mono fun b f => ?_), u, S.len, fun i x h => (S.sl i x h).mono k.same fun a ds e => ?_, S.ap, tabs_step S.tb s k⟩
  · cases q : B.fr b with
    | none => exact absurd q f
    | some o =>
      rw [S.fr b o q]
      exact fun z => nomatch z
  · subst e
    obtain ⟨_, _, n, vs, hv, _⟩ := S.lst h
    exact ⟨k.off a n (by rw [hv]; exact fun z => nomatch z), (s a _ hv).trans hv.symm⟩
theorem get_set {α : Type} {l : List α} {i j : Nat} {x s : α} (h : (l.set i x)[j]? = some s) : (j = i ∧ s = x) ∨ (j ≠ i ∧ l[j]? = some s) := by
  by_cases e : i = j
  · subst e
    rw [List.getElem?_set] at h
    simp only [if_true] at h
    split at h
    · exact .inl ⟨rfl, (Option.some.inj h).symm⟩
    · cases h
  · rw [List.getElem?_set_ne e] at h
    exact .inr ⟨fun z => e z.symm, h⟩
/-- a slot is given data, or what is no list of its own -/
theorem Sx.put (S : Sx B Hs σ H Γ) {i : Nat} {v : V} {s : Sl} (hs : ∀ a ds, s ≠ .own a ds) (hi : i < Γ.length) (h : SlOk B.fr Hs H (some (some v)) s) : Sx B Hs (σ.set i (some v)) H (Γ.set i s) := by
  refine ⟨S.fr, S.gr, S.sub, by rw [List.length_set, List.length_set]; exact S.len, fun j t e => ?_, fun j k a ds b es e1 e2 n => ?_, S.tb⟩
  · rcases get_set e with ⟨rfl, rfl⟩ | ⟨n, e⟩
    · rw [List.getElem?_set_self (by rw [S.len]; exact hi)]
      exact h
    · rw [List.getElem?_set_ne fun z => n z.symm]
      exact S.sl j t e
  · rcases get_set e1 with ⟨rfl, z⟩ | ⟨n1, e1⟩
    · exact absurd z.symm (hs a ds)
    · rcases get_set e2 with ⟨rfl, z⟩ | ⟨n2, e2⟩
      · exact absurd z.symm (hs b es)
      · exact S.ap j k a ds b es e1 e2 n
theorem Sx.putD (S : Sx B Hs σ H Γ) {i : Nat} {v : V} {x : PyData} (hi : i < Γ.length) (h : Dv Hs v x) : Sx B Hs (σ.set i (some v)) H (Γ.set i (.d x)) := S.put (fun _ _ z => nomatch z) hi ⟨v, rfl, h⟩
theorem Sx.putV (S : Sx B Hs σ H Γ) {i : Nat} {v : V} (hi : i < Γ.length) : Sx B Hs (σ.set i (some v)) H (Γ.set i (.v v)) := S.put (fun _ _ z => nomatch z) hi rfl
/-- a list of no other one's -/
def Alone (Γ : List Sl) (a : Addr) : Prop := ∀ (i : Nat) (b : Addr) (es : List PyData), Γ[i]? = some (.own b es) → b ≠ a
/-- a slot is given a list of its own -/
theorem Sx.putL (S : Sx B Hs σ H Γ) {i : Nat} {a : Addr} {vs : List V} {ds : List PyData} (hi : i < Γ.length) (f : B.fr a = none) (n : Hs a = none) (ha : H a = some (.lst vs)) (h : DvAll Hs vs ds) (al : Alone Γ a) : Sx B Hs (σ.set i (some (.ref a))) H (Γ.set i (.own a ds)) := by
  refine ⟨S.fr, S.gr, S.sub, by rw [List.length_set, List.length_set]; exact S.len, fun j t e => ?_, fun j k b es c fs e1 e2 n => ?_, S.tb⟩
  · rcases get_set e with ⟨rfl, rfl⟩ | ⟨n, e⟩
    · rw [List.getElem?_set_self (by rw [S.len]; exact hi)]
      exact ⟨rfl, f, ‹_›, vs, ha, h⟩
    · rw [List.getElem?_set_ne fun z => n z.symm]
      exact S.sl j t e
  · rcases get_set e1 with ⟨rfl, z⟩ | ⟨n1, d1⟩
    · rcases get_set e2 with ⟨rfl, z2⟩ | ⟨n2, d2⟩
      · exact absurd rfl n
      · cases z
        exact fun z => al k c fs d2 z.symm
    · rcases get_set e2 with ⟨rfl, z2⟩ | ⟨n2, d2⟩
      · cases z2
        exact al j b es d1
      · exact S.ap j k b es c fs d1 d2 n
/-- it becomes data, and is no longer changed -/
theorem Sx.freeze (S : Sx B Hs σ H Γ) {i : Nat} {a : Addr} {ds : List PyData} (h : Γ[i]? = some (.own a ds)) : ∃ Hs', Same Hs Hs' ∧ Sx B Hs' σ H (Γ.set i (.d (.list ds))) ∧ Dv Hs' (.ref a) (.list ds) := by
  obtain ⟨e, f, n, vs, hv, hd⟩ := S.lst h
  have k : Same Hs (upd Hs a (.lst vs)) := Same.new n
  have dv : Dv (upd Hs a (.lst vs)) (.ref a) (.list ds) := .lst (.inl upd_same) (hd.mono k)
  refine ⟨upd Hs a (.lst vs), k, ⟨S.fr, S.gr.trans ⟨k, fun b nb fb => ?_⟩, fun b u eb => ?_, by rw [List.length_set]; exact S.len, fun j t ej => ?_, fun j l b es c fs e1 e2 ne => ?_, tabs_fz S.tb hv⟩, dv⟩
  · have : b ≠ a := fun z => fb (z ▸ f)
    exact (upd_ne this).trans nb
  · by_cases z : b = a
    · subst z
      rw [upd_same] at eb
      rw [hv]
      exact eb
    · rw [upd_ne z] at eb
      exact S.sub b u eb
  · rcases get_set ej with ⟨rfl, rfl⟩ | ⟨nj, ej⟩
    · exact ⟨_, e, dv⟩
    · refine (S.sl j t ej).mono k fun b es z => ?_
      subst z
      obtain ⟨_, _, nb, _⟩ := S.lst ej
      exact ⟨(upd_ne (S.ap j i b es a ds ej h nj)).trans nb, rfl⟩
  · rcases get_set e1 with ⟨_, z⟩ | ⟨_, e1⟩
    · cases z
    · rcases get_set e2 with ⟨_, z⟩ | ⟨_, e2⟩
      · cases z
      · exact S.ap j l b es c fs e1 e2 ne
/-- such a list is changed -/
theorem Sx.upd (S : Sx B Hs σ H Γ) {i : Nat} {a : Addr} {ds es : List PyData} {vs : List V} (h : Γ[i]? = some (.own a ds)) (d : DvAll Hs vs es) : Sx B Hs σ (L2.upd H a (.lst vs)) (Γ.set i (.own a es)) := by
  obtain ⟨e, f, n, ws, hv, hd⟩ := S.lst h
  refine ⟨fun b u eb => ?_, S.gr, fun b u eb => ?_, by rw [List.length_set]; exact S.len, fun j t ej => ?_, fun j l b fs c gs e1 e2 ne => ?_, tabs_upd S.tb hv⟩
  · have : b ≠ a := fun z => by rw [z, f] at eb; cases eb
    exact (upd_ne this).trans (S.fr b u eb)
  · have : b ≠ a := fun z => by rw [z, n] at eb; cases eb
    exact (upd_ne this).trans (S.sub b u eb)
  · rcases get_set ej with ⟨rfl, rfl⟩ | ⟨nj, ej⟩
    · exact ⟨e, f, n, vs, upd_same, d⟩
    · refine (S.sl j t ej).mono (Same.refl _) fun b fs z => ?_
      subst z
      obtain ⟨_, _, nb, _⟩ := S.lst ej
      exact ⟨nb, upd_ne (S.ap j i b fs a ds ej h nj)⟩
  · rcases get_set e1 with ⟨rfl, z⟩ | ⟨n1, d1⟩
    · cases z
      rcases get_set e2 with ⟨rfl, z⟩ | ⟨n2, d2⟩
      · exact absurd rfl ne
      · exact (S.ap l j c gs a ds d2 h n2).symm
    · rcases get_set e2 with ⟨rfl, z⟩ | ⟨n2, d2⟩
      · cases z
        exact S.ap j l b fs a ds d1 h n1
      · exact S.ap j l b fs c gs d1 d2 ne
end
end Px
/-! What a piece does to data: the judgements, and the rules of expressions. -/
namespace Px
open PySem PySem.Spec PyProof.Rows L2 Tc
section
variable (B : Bas) (X : Cx)
/-- an expression gives data -/
def GE (e : Expr) (Γ : List Sl) (φ : PyData → List Sl → Prop) : Prop := ∀ (Hs : Hp) (σ : L2.St) (H : Hp) (Q : VK), Sx B Hs σ H Γ →
  (∀ d Γ' v Hs' H', φ d Γ' → Same Hs Hs' → Sx B Hs' σ H' Γ' → Dv Hs' v d → Q v H') → teW X e σ H Q
/-- data to be looked at, a list of one's own too -/
def GB (e : Expr) (Γ : List Sl) (φ : PyData → List Sl → Prop) : Prop := ∀ (Hs : Hp) (σ : L2.St) (H : Hp) (Q : VK), Sx B Hs σ H Γ →
  (∀ d Γ' v Hs' H', φ d Γ' → Same Hs Hs' → Sx B Hs' σ H' Γ' → Dv H' v d → Q v H') → teW X e σ H Q
/-- a new list -/
def GF (e : Expr) (Γ : List Sl) (φ : List PyData → List Sl → Prop) : Prop := ∀ (Hs : Hp) (σ : L2.St) (H : Hp) (Q : VK), Sx B Hs σ H Γ →
  (∀ ds Γ' a vs Hs' H', φ ds Γ' → Same Hs Hs' → Sx B Hs' σ H' Γ' → B.fr a = none → Hs' a = none → Alone Γ' a → H' a = some (.lst vs) → DvAll Hs' vs ds → Q (.ref a) H') → teW X e σ H Q
/-- a list (k) or a tuple, its items data -/
def GQ (k : Bool) (e : Expr) (Γ : List Sl) (φ : List PyData → List Sl → Prop) : Prop := ∀ (Hs : Hp) (σ : L2.St) (H : Hp) (Q : VK), Sx B Hs σ H Γ →
  (∀ ds Γ' a vs Hs' H', φ ds Γ' → Same Hs Hs' → Sx B Hs' σ H' Γ' → (if k = true then SqL X.K H' a vs else SqT X.K H' a vs) → DvAll Hs' vs ds → Q (.ref a) H') → teW X e σ H Q
/-- a test -/
def GT (e : Expr) (Γ : List Sl) (φ : Bool → List Sl → Prop) : Prop := ∀ (Hs : Hp) (σ : L2.St) (H : Hp) (Q : Bool → Hp → Prop), Sx B Hs σ H Γ →
  (∀ b Γ' Hs' H', φ b Γ' → Same Hs Hs' → Sx B Hs' σ H' Γ' → Q b H') → ttW X e σ H Q
def GW (e : Expr) (Γ : List Sl) (φ : Bool → List Sl → Prop) : Prop := ∀ (Hs : Hp) (σ : L2.St) (H : Hp) (Q : Bool → Hp → Prop), Sx B Hs σ H Γ →
  (∀ b Γ' Hs' H', φ b Γ' → Same Hs Hs' → Sx B Hs' σ H' Γ' → Q b H') → twW X e σ H Q
/-- arguments -/
def GA (es : List Expr) (Γ : List Sl) (φ : List PyData → List Sl → Prop) : Prop := ∀ (Hs : Hp) (σ : L2.St) (H : Hp) (Q : List V → Hp → Prop), Sx B Hs σ H Γ →
  (∀ ds Γ' vs Hs' H', φ ds Γ' → Same Hs Hs' → Sx B Hs' σ H' Γ' → DvAll Hs' vs ds → Q vs H') → taW X es σ H Q
end
section
variable {B : Bas} {X : Cx} {Γ : List Sl} {pos : Pos}
/-! ### from one to another -/
theorem gb_of {e : Expr} {φ : PyData → List Sl → Prop} (h : GE B X e Γ φ) : GB B X e Γ φ := fun Hs σ H Q S k => h Hs σ H Q S fun d Γ' v Hs' H' p s T q => k d Γ' v Hs' H' p s T (q.mono T.sub)
theorem ge_ofF {e : Expr} {φ : PyData → List Sl → Prop} (h : GF B X e Γ fun ds Γ' => φ (.list ds) Γ') : GE B X e Γ φ := fun Hs σ H Q S k => h Hs σ H Q S fun ds Γ' a vs Hs' H' p s T f n al ha q => by
  have g : Same Hs' (upd Hs' a (.lst vs)) := Same.new n
  refine k (.list ds) Γ' (.ref a) (upd Hs' a (.lst vs)) H' p (s.trans g) ⟨T.fr, T.gr.trans ⟨g, fun b nb fb => ?_⟩, fun b u eb => ?_, T.len, fun j t ej => (T.sl j t ej).mono g fun b es z => ?_, T.ap, tabs_fz T.tb ha⟩ (.lst (.inl upd_same) (q.mono g))
  · exact (upd_ne fun z => fb (by rw [z]; exact f)).trans nb
  · by_cases z : b = a
    · subst z
      rw [upd_same] at eb
      rw [ha]
      exact eb
    · rw [upd_ne z] at eb
      exact T.sub b u eb
  · subst z
    obtain ⟨_, _, nb, _⟩ := T.lst ej
    exact ⟨(upd_ne (al j b es ej)).trans nb, rfl⟩
theorem rdL {K : PySem.W.Frag} {H : Hp} {a : Addr} {xs : List V} (h : Rd H a (.lst xs)) : SqL K H a xs := .inl h
theorem rdT {K : PySem.W.Frag} {H : Hp} {a : Addr} {xs : List V} (h : Rd H a (.tup xs)) : SqT K H a xs := .inl h
theorem rd_up {H H' : Hp} (s : Same H H') {a : Addr} {u : HO} (h : Rd H a u) : Rd H' a u := by
  rcases h with h | ⟨o, h⟩
  · exact .inl (s _ _ h)
  · exact .inr ⟨o, s _ _ h⟩
/-- data that are a list, a tuple -/
theorem gq_of {k : Bool} {e : Expr} {φ : List PyData → List Sl → Prop} (h : GE B X e Γ fun d Γ' => ∃ ds, d = (if k = true then .list ds else .tuple ds) ∧ φ ds Γ') : GQ B X k e Γ φ := fun Hs σ H Q S g => h Hs σ H Q S fun d Γ' v Hs' H' ⟨ds, e, p⟩ s T q => by
  subst e
  cases k with
  | true =>
    cases q with
    | lst r a => exact g ds Γ' _ _ Hs' H' p s T (rdL (rd_up T.sub r)) a
  | false =>
    cases q with
    | tup r a => exact g ds Γ' _ _ Hs' H' p s T (rdT (rd_up T.sub r)) a
theorem gq_ofF {e : Expr} {φ : List PyData → List Sl → Prop} (h : GF B X e Γ φ) : GQ B X true e Γ φ := fun Hs σ H Q S g => h Hs σ H Q S fun ds Γ' a vs Hs' H' p s T f n al ha q => g ds Γ' a vs Hs' H' p s T (.inl (.inl ha)) q
theorem gt_ofE {e : Expr} {φ : Bool → List Sl → Prop} (h : GE B X e Γ fun d Γ' => ∃ b, d = .bool b ∧ φ b Γ') (he : ∀ whole, isTrue e X.env whole = (do let v ← whole; standAt e.pos; holding [v] (truthy v)) := by intro _; rfl) : GT B X e Γ φ := fun Hs σ H Q S g =>
  pt_of (pt_val pe_W he) (show teW X e σ H _ from h Hs σ H _ S fun d Γ' v Hs' H' ⟨b, e, p⟩ s T q => by
    subst e
    cases q
    exact ⟨b, rfl, g b Γ' Hs' H' p s T⟩)
/-! ### names and constants -/
theorem ge_name (i : Nat) {x : Str} {y : PyData} {φ : PyData → List Sl → Prop} (hN : X.N[i]? = some x) (hΓ : Γ[i]? = some (.d y)) (hv : Vis X.env.scope x) (h : φ y Γ) (hd : (x == ("__debug__" : Str)) = false := by decide) (hcd : (x == ("__classdict__" : Str)) = false := by decide) :
    GE B X (.Name x pos) Γ φ := fun Hs σ H Q S g => by
  obtain ⟨v, e, d⟩ := S.dat hΓ
  exact pe_of (pe_var hN hv hd hcd) ⟨v, e, g y Γ v Hs H h (Same.refl _) S d⟩
/-- a list of one's own, given away -/
theorem ge_give (i : Nat) {x : Str} {a : Addr} {ds : List PyData} {φ : PyData → List Sl → Prop} (hN : X.N[i]? = some x) (hΓ : Γ[i]? = some (.own a ds)) (hv : Vis X.env.scope x) (h : φ (.list ds) (Γ.set i (.d (.list ds)))) (hd : (x == ("__debug__" : Str)) = false := by decide) (hcd : (x == ("__classdict__" : Str)) = false := by decide) :
    GE B X (.Name x pos) Γ φ := fun Hs σ H Q S g => by
  obtain ⟨Hs', k, T, d⟩ := S.freeze hΓ
  obtain ⟨e, _⟩ := S.lst hΓ
  exact pe_of (pe_var hN hv hd hcd) ⟨.ref a, e, g _ _ _ Hs' H h k T d⟩
/-- .. looked at -/
theorem gb_own (i : Nat) {x : Str} {a : Addr} {ds : List PyData} {φ : PyData → List Sl → Prop} (hN : X.N[i]? = some x) (hΓ : Γ[i]? = some (.own a ds)) (hv : Vis X.env.scope x) (h : φ (.list ds) Γ) (hd : (x == ("__debug__" : Str)) = false := by decide) (hcd : (x == ("__classdict__" : Str)) = false := by decide) :
    GB B X (.Name x pos) Γ φ := fun Hs σ H Q S g => by
  obtain ⟨e, f, n, vs, hv', d⟩ := S.lst hΓ
  exact pe_of (pe_var hN hv hd hcd) ⟨.ref a, e, g _ _ _ Hs H h (Same.refl _) S (.lst (.inl hv') (d.mono S.sub))⟩
theorem gq_own (i : Nat) {x : Str} {a : Addr} {ds : List PyData} {φ : List PyData → List Sl → Prop} (hN : X.N[i]? = some x) (hΓ : Γ[i]? = some (.own a ds)) (hv : Vis X.env.scope x) (h : φ ds Γ) (hd : (x == ("__debug__" : Str)) = false := by decide) (hcd : (x == ("__classdict__" : Str)) = false := by decide) :
    GQ B X true (.Name x pos) Γ φ := fun Hs σ H Q S g => by
  obtain ⟨e, f, n, vs, hv', d⟩ := S.lst hΓ
  exact pe_of (pe_var hN hv hd hcd) ⟨.ref a, e, g _ _ _ _ Hs H h (Same.refl _) S (.inl (.inl hv')) d⟩
theorem ge_con {e : Expr} {v : V} {d : PyData} {φ : PyData → List Sl → Prop} (p : PE X e (tC v)) (hd : ∀ H, Dv H v d) (h : φ d Γ) : GE B X e Γ φ := fun Hs σ H Q S g => pe_of p (g d Γ v Hs H h (Same.refl _) S (hd Hs))
theorem ge_int {i : Int} {j : Nat} {φ : PyData → List Sl → Prop} (h : φ (.int i) Γ) : GE B X (.Constant (.int i) j pos) Γ φ := ge_con pe_int (fun _ => .int i) h
theorem ge_str {i : Str} {j : Nat} {φ : PyData → List Sl → Prop} (h : φ (.str i) Γ) : GE B X (.Constant (.str i) j pos) Γ φ := ge_con pe_str (fun _ => .str i) h
theorem ge_bool {i : Bool} {j : Nat} {φ : PyData → List Sl → Prop} (h : φ (.bool i) Γ) : GE B X (.Constant (.bool i) j pos) Γ φ := ge_con pe_bl (fun _ => .bl i) h
theorem ge_none {j : Nat} {φ : PyData → List Sl → Prop} (h : φ .none Γ) : GE B X (.Constant .none j pos) Γ φ := ge_con pe_non (fun _ => .non) h
theorem ge_num {x : Str} {n : Int} {φ : PyData → List Sl → Prop} (hm : ∃ t, X.mg x = some (.int n t)) (hg : Gl X x) (h : φ (.int n) Γ) (hd : (x == ("__debug__" : Str)) = false := by decide) : GE B X (.Name x pos) Γ φ := ge_con (pe_num hm hg hd) (fun _ => .int n) h
/-! ### arguments, displays -/
theorem ga_nil {φ : List PyData → List Sl → Prop} (h : φ [] Γ) : GA B X [] Γ φ := fun Hs σ H Q S g => pa_of pa_nil (g [] Γ [] Hs H h (Same.refl _) S .nil)
theorem ga_cons {e : Expr} {es : List Expr} {φ : List PyData → List Sl → Prop} (h : GE B X e Γ fun d Γ1 => GA B X es Γ1 fun ds Γ2 => φ (d :: ds) Γ2) (hs : starEach (e :: es) X.env = (false, eval e X.env) :: starEach es X.env := by rfl) : GA B X (e :: es) Γ φ := fun Hs σ H Q S g =>
  pa_of (pa_cons pe_W pa_W hs) (h Hs σ H _ S fun d Γ1 v Hs1 H1 p s1 S1 dv => p Hs1 σ H1 _ S1 fun ds Γ2 vs Hs2 H2 q s2 S2 dvs => g (d :: ds) Γ2 (v :: vs) Hs2 H2 q (s1.trans s2) S2 (.cons (dv.mono s2) dvs))
theorem ge_tup {es : List Expr} {x1 : Nat} {φ : PyData → List Sl → Prop} (h : GA B X es Γ fun ds Γ' => ds.length ≤ sizeLine ∧ φ (.tuple ds) Γ') : GE B X (.Tuple es x1 pos) Γ φ := fun Hs σ H Q S g =>
  pe_of (pe_tup pa_W) (h Hs σ H _ S fun ds Γ' vs Hs' H' ⟨l, p⟩ s T dv => ⟨by rw [dv.len]; exact l, fun q hq => by
    obtain ⟨k, U⟩ := T.new (o := .tup vs) hq
    exact g (.tuple ds) Γ' (.ref q) _ _ p (s.trans k) U (.tup (.inl upd_same) (dv.mono k))⟩)
theorem alone_new {Hs : Hp} {σ : L2.St} {H : Hp} (S : Sx B Hs σ H Γ) {q : Addr} (hq : H q = none) : B.fr q = none ∧ Hs q = none ∧ Alone Γ q := ⟨S.fr.free hq, S.sub.free hq, fun i b es e z => by
  obtain ⟨_, _, _, vs, hv, _⟩ := S.lst e
  rw [z, hq] at hv
  cases hv⟩
theorem gf_list {es : List Expr} {φ : List PyData → List Sl → Prop} (h : GA B X es Γ fun ds Γ' => ds.length ≤ sizeLine ∧ φ ds Γ') : GF B X (.List es pos) Γ φ := fun Hs σ H Q S g =>
  pe_of (pe_lst pa_W) (h Hs σ H _ S fun ds Γ' vs Hs' H' ⟨l, p⟩ s T dv => ⟨by rw [dv.len]; exact l, fun q hq => by
    obtain ⟨f, n, al⟩ := alone_new T hq
    exact g ds Γ' q vs Hs' _ p s (T.aside hq) f n al upd_same dv⟩)
end
end Px
/-! Operators and comparisons, by the data. -/
namespace Px
open PySem PySem.Spec PyProof.Rows L2 Tc
theorem dvs_append {H : Hp} : ∀ {vs : List V} {ds : List PyData} {ws : List V} {es : List PyData}, DvAll H vs ds → DvAll H ws es → DvAll H (vs ++ ws) (ds ++ es)
  | _, _, _, _, .nil, h => h
  | _, _, _, _, .cons a r, h => .cons a (dvs_append r h)
theorem dvs_rep {H : Hp} {vs : List V} {ds : List PyData} (h : DvAll H vs ds) : ∀ n : Nat, DvAll H (List.replicate n vs).flatten (List.replicate n ds).flatten
  | 0 => .nil
  | n + 1 => by
    rw [List.replicate_succ, List.replicate_succ, List.flatten_cons, List.flatten_cons]
    exact dvs_append h (dvs_rep h n)
theorem dvs_get {H : Hp} : ∀ {vs : List V} {ds : List PyData} {i : Nat} {d : PyData}, DvAll H vs ds → ds[i]? = some d → ∃ v, vs[i]? = some v ∧ Dv H v d
  | _, _, _, _, .nil, e => by simp at e
  | _, _, 0, _, .cons a _, e => by
    simp at e
    subst e
    exact ⟨_, rfl, a⟩
  | _, _, i + 1, d, .cons _ r, e => by
    obtain ⟨v, h1, h2⟩ := dvs_get (i := i) (d := d) r (by simpa using e)
    exact ⟨v, by simpa using h1, h2⟩
theorem dvs_get' {H : Hp} : ∀ {vs : List V} {ds : List PyData} {i : Nat} {v : V}, DvAll H vs ds → vs[i]? = some v → ∃ d, ds[i]? = some d ∧ Dv H v d
  | _, _, _, _, .nil, e => by simp at e
  | _, _, 0, _, .cons a _, e => by
    simp at e
    subst e
    exact ⟨_, rfl, a⟩
  | _, _, i + 1, d, .cons _ r, e => by
    obtain ⟨v, h1, h2⟩ := dvs_get' (i := i) (v := d) r (by simpa using e)
    exact ⟨v, by simpa using h1, h2⟩
theorem dvs_drop {H : Hp} : ∀ {vs : List V} {ds : List PyData} (n : Nat), DvAll H vs ds → DvAll H (vs.drop n) (ds.drop n)
  | _, _, 0, h => h
  | _, _, _ + 1, .nil => .nil
  | _, _, n + 1, .cons _ r => dvs_drop n r
theorem dvs_take {H : Hp} : ∀ {vs : List V} {ds : List PyData} (n : Nat), DvAll H vs ds → DvAll H (vs.take n) (ds.take n)
  | _, _, 0, _ => .nil
  | _, _, _ + 1, .nil => .nil
  | _, _, n + 1, .cons a r => .cons a (dvs_take n r)
theorem dvs_set {H : Hp} : ∀ {vs : List V} {ds : List PyData} {v : V} {d : PyData} (i : Nat), DvAll H vs ds → Dv H v d → DvAll H (vs.set i v) (ds.set i d)
  | _, _, _, _, _, .nil, _ => .nil
  | _, _, _, _, 0, .cons _ r, h => .cons h r
  | _, _, _, _, i + 1, .cons a r, h => .cons a (dvs_set i r h)
theorem dvs_snoc {H : Hp} {vs : List V} {ds : List PyData} {v : V} {d : PyData} (h : DvAll H vs ds) (g : Dv H v d) : DvAll H (vs ++ [v]) (ds ++ [d]) := dvs_append h (.cons g .nil)
theorem dvs_nil {H : Hp} {vs : List V} (h : DvAll H vs []) : vs = [] := by cases h; rfl
theorem dvs_ints {H : Hp} : ∀ {vs : List V} {ns : List Int}, DvAll H vs (ns.map PyData.int) → vs = ns.map V.int
  | _, [], .nil => rfl
  | _, _ :: _, .cons a r => by
    cases a
    rw [dvs_ints r] <;> rfl
theorem dvs_strs {H : Hp} : ∀ {vs : List V} {ns : List Str}, DvAll H vs (ns.map PyData.str) → vs = ns.map V.str
  | _, [], .nil => rfl
  | _, _ :: _, .cons a r => by
    cases a
    rw [dvs_strs r] <;> rfl
theorem dvs_bools {H : Hp} : ∀ {vs : List V} {ns : List Bool}, DvAll H vs (ns.map PyData.bool) → vs = ns.map V.bl
  | _, [], .nil => rfl
  | _, _ :: _, .cons a r => by
    cases a
    rw [dvs_bools r] <;> rfl
section
variable {B : Bas} {X : Cx} {Γ : List Sl} {pos : Pos}
/-! ### a two-place operation -/
def Op2 (B : Bas) (r : R2) (d1 d2 : PyData) (k : PyData → Prop) : Prop := ∀ (Γ : List Sl) (Hs : Hp) (σ : L2.St) (H : Hp) (v1 v2 : V) (Q : VK), Sx B Hs σ H Γ → Dv Hs v1 d1 → Dv Hs v2 d2 →
  (∀ d v Hs' H', k d → Same Hs Hs' → Sx B Hs' σ H' Γ → Dv Hs' v d → Q v H') → r v1 v2 H Q
theorem ge_op {op : Operator} {r : R2} {a b : Expr} {φ : PyData → List Sl → Prop} (ho : OpR X (binaryOp op) r) (R : PyData → PyData → (PyData → Prop) → Prop) (sem : ∀ d1 d2 k, R d1 d2 k → Op2 B r d1 d2 k)
    (h : GE B X a Γ fun d1 Γ1 => GE B X b Γ1 fun d2 Γ2 => R d1 d2 fun d => φ d Γ2) : GE B X (.BinOp a op b pos) Γ φ := fun Hs σ H Q S g =>
  pe_of (pe_op ho pe_W pe_W) (h Hs σ H _ S fun d1 Γ1 v1 Hs1 H1 p s1 S1 q1 => p Hs1 σ H1 _ S1 fun d2 Γ2 v2 Hs2 H2 p2 s2 S2 q2 =>
    sem d1 d2 _ p2 Γ2 Hs2 σ H2 v1 v2 Q S2 (q1.mono s2) q2 fun d v Hs3 H3 kd s3 S3 q3 => g d Γ2 v Hs3 H3 kd (s1.trans (s2.trans s3)) S3 q3)
theorem or_op {f : Value → Value → Sem Value} {r r' : R2} (h : OpR X f r) (h' : OpR X f r') : OpR X f (fun x y H Q => r x y H Q ∨ r' x y H Q) := fun pins s σ H x y v u Q I rx ry q => q.elim (h pins s σ H x y v u Q I rx ry) (h' pins s σ H x y v u Q I rx ry)
def rCatR : R2 := fun x y H Q => ∃ l b xs zs, x = .ref l ∧ y = .ref b ∧ Rd H l (.lst xs) ∧ Rd H b (.lst zs) ∧ xs.length + zs.length ≤ sizeLine ∧ ∀ p, H p = none → Q (.ref p) (upd H p (.lst (xs ++ zs)))
theorem op_catR : OpR X (binaryOp .Add) rCatR := by
  intro pins s σ H x y v u Q I rx ry h
  obtain ⟨l, b, xs, zs, rfl, rfl, hH, hB, hz, q⟩ := h
  cases rx
  cases ry
  obtain ⟨z, its, n, r, e⟩ := hH.ok I.hok
  obtain ⟨z2, its2, n2, r2, e2⟩ := hB.ok I.hok
  have l1 := r.length
  have l2 := r2.length
  refine PySem.P.add_list e e2 ?_ (by rw [List.size_toArray, List.size_toArray]; omega)
  have ea : its.toArray ++ its2.toArray = (its ++ its2).toArray := by simp
  rw [ea]
  exact ⟨.ref _, _, I.lnew (t' := s.toks) (r.append r2) (by rw [List.length_append]; omega), rfl, q _ I.fresh⟩
def AddD (d1 d2 : PyData) (k : PyData → Prop) : Prop := match d1, d2 with
  | .int i, .int j => k (.int (i + j))
  | .str x, .str y => x.length + y.length ≤ sizeLine ∧ k (.str (x ++ y))
  | .tuple xs, .tuple ys => xs.length + ys.length ≤ sizeLine ∧ k (.tuple (xs ++ ys))
  | .list xs, .list ys => xs.length + ys.length ≤ sizeLine ∧ k (.list (xs ++ ys))
  | _, _ => False
def rAddA (K : PySem.W.Frag) : R2 := fun x y H Q => (rI0 fun i j => .int (i + j)) x y H Q ∨ ((∃ i j, x = .str i ∧ y = .str j ∧ i.length + j.length ≤ sizeLine ∧ Q (.str (i ++ j)) H) ∨ (rCatA K x y H Q ∨ rCatR x y H Q))
theorem op_addA : OpR X (binaryOp .Add) (rAddA X.K) := or_op op_add (or_op op_add_str (or_op op_catA op_catR))
theorem tup_new {Hs : Hp} {σ : L2.St} {H : Hp} (S : Sx B Hs σ H Γ) {vs : List V} {ds : List PyData} (h : DvAll Hs vs ds) {Q : VK} (q : ∀ v Hs' H', Same Hs Hs' → Sx B Hs' σ H' Γ → Dv Hs' v (.tuple ds) → Q v H') (p : Addr) (hp : H p = none) : Q (.ref p) (upd H p (.tup vs)) := by
  obtain ⟨k, U⟩ := S.new (o := .tup vs) hp
  exact q _ _ _ k U (.tup (.inl upd_same) (h.mono k))
theorem lst_new {Hs : Hp} {σ : L2.St} {H : Hp} (S : Sx B Hs σ H Γ) {vs : List V} {ds : List PyData} (h : DvAll Hs vs ds) {Q : VK} (q : ∀ v Hs' H', Same Hs Hs' → Sx B Hs' σ H' Γ → Dv Hs' v (.list ds) → Q v H') (p : Addr) (hp : H p = none) : Q (.ref p) (upd H p (.lst vs)) := by
  obtain ⟨k, U⟩ := S.new (o := .lst vs) hp
  exact q _ _ _ k U (.lst (.inl upd_same) (h.mono k))
theorem sem_add {K : PySem.W.Frag} (d1 d2 : PyData) (k : PyData → Prop) (h : AddD d1 d2 k) : Op2 B (rAddA K) d1 d2 k := by
  intro Γ Hs σ H v1 v2 Q S q1 q2 g
  cases q1 with
  | int i =>
    cases q2 with
    | int j => exact .inl ⟨i, j, rfl, rfl, g _ _ Hs H h (Same.refl _) S (.int _)⟩
    | _ => exact h.elim
  | str x =>
    cases q2 with
    | str y => exact .inr (.inl ⟨x, y, rfl, rfl, h.1, g _ _ Hs H h.2 (Same.refl _) S (.str _)⟩)
    | _ => exact h.elim
  | @tup a xs ds r1 a1 =>
    cases q2 with
    | @tup b ys es r2 a2 =>
      obtain ⟨hl, hk⟩ := h
      refine .inr (.inr (.inl ⟨a, b, xs, ys, rfl, rfl, rdT (rd_up S.sub r1), rdT (rd_up S.sub r2), by rw [a1.len, a2.len]; exact hl, fun e => ?_, fun _ e => ?_, fun _ _ p hp => ?_⟩))
      · subst e
        cases a1
        exact g _ _ Hs H hk (Same.refl _) S (.tup r2 a2)
      · subst e
        cases a2
        rw [List.append_nil] at hk
        exact g _ _ Hs H hk (Same.refl _) S (.tup r1 a1)
      · exact tup_new S (dvs_append a1 a2) (fun v Hs' H' s T q => g _ v Hs' H' hk s T q) p hp
    | _ => exact h.elim
  | @lst a xs ds r1 a1 =>
    cases q2 with
    | @lst b ys es r2 a2 =>
      obtain ⟨hl, hk⟩ := h
      exact .inr (.inr (.inr ⟨a, b, xs, ys, rfl, rfl, rd_up S.sub r1, rd_up S.sub r2, by rw [a1.len, a2.len]; exact hl, lst_new S (dvs_append a1 a2) fun v Hs' H' s T q => g _ v Hs' H' hk s T q⟩))
    | _ => exact h.elim
  | _ => exact h.elim
theorem ge_add {a b : Expr} {φ : PyData → List Sl → Prop} (h : GE B X a Γ fun d1 Γ1 => GE B X b Γ1 fun d2 Γ2 => AddD d1 d2 fun d => φ d Γ2) : GE B X (.BinOp a .Add b pos) Γ φ := ge_op op_addA AddD sem_add h
def IntD (C : Int → Int → Prop) (f : Int → Int → Int) (d1 d2 : PyData) (k : PyData → Prop) : Prop := match d1, d2 with
  | .int i, .int j => C i j ∧ k (.int (f i j))
  | _, _ => False
theorem sem_int {C : Int → Int → Prop} {f : Int → Int → Int} (d1 d2 : PyData) (k : PyData → Prop) (h : IntD C f d1 d2 k) : Op2 B (rI C fun i j => .int (f i j)) d1 d2 k := by
  intro Γ Hs σ H v1 v2 Q S q1 q2 g
  cases q1 with
  | int i =>
    cases q2 with
    | int j => exact ⟨i, j, rfl, rfl, h.1, g _ _ Hs H h.2 (Same.refl _) S (.int _)⟩
    | _ => exact h.elim
  | _ => exact h.elim
def Int0 (f : Int → Int → Int) (d1 d2 : PyData) (k : PyData → Prop) : Prop := match d1, d2 with
  | .int i, .int j => k (.int (f i j))
  | _, _ => False
theorem sem_int0 {f : Int → Int → Int} (d1 d2 : PyData) (k : PyData → Prop) (h : Int0 f d1 d2 k) : Op2 B (rI0 fun i j => .int (f i j)) d1 d2 k := by
  intro Γ Hs σ H v1 v2 Q S q1 q2 g
  cases q1 with
  | int i =>
    cases q2 with
    | int j => exact ⟨i, j, rfl, rfl, g _ _ Hs H h (Same.refl _) S (.int _)⟩
    | _ => exact h.elim
  | _ => exact h.elim
theorem ge_sub {a b : Expr} {φ : PyData → List Sl → Prop} (h : GE B X a Γ fun d1 Γ1 => GE B X b Γ1 fun d2 Γ2 => Int0 (· - ·) d1 d2 fun d => φ d Γ2) : GE B X (.BinOp a .Sub b pos) Γ φ := ge_op op_sub (Int0 (· - ·)) sem_int0 h
/-- small numbers (one below 2^64), or with fewer than a million bits together -/
def MulOk (i j : Int) : Prop := CMul i j ∨ CMulW i j
theorem op_mulA : OpR X (binaryOp .Mult) (rI MulOk fun i j => .int (i * j)) := fun pins s σ H x y v u Q I rx ry ⟨i, j, e1, e2, c, q⟩ => c.elim (fun c => op_mul pins s σ H x y v u Q I rx ry ⟨i, j, e1, e2, c, q⟩) fun c => op_mulW pins s σ H x y v u Q I rx ry ⟨i, j, e1, e2, c, q⟩
def rRepL (K : PySem.W.Frag) : R2 := fun x y H Q => (rI MulOk fun i j => .int (i * j)) x y H Q ∨ ((∃ (i : Str) (k : Int), x = .str i ∧ y = .int k ∧ i.length ≤ 16 ∧ -(2 ^ 63) ≤ k ∧ k ≤ 1048576 ∧ Q (.str (Txt.mul i k)) H) ∨ rRepT K x y H Q)
theorem op_mulD : OpR X (binaryOp .Mult) (rRepL X.K) := or_op op_mulA (or_op op_mul_str op_repT)
def MulD (d1 d2 : PyData) (k : PyData → Prop) : Prop := match d1, d2 with
  | .int i, .int j => MulOk i j ∧ k (.int (i * j))
  | .str x, .int j => (x.length ≤ 16 ∧ -(2 ^ 63) ≤ j ∧ j ≤ 1048576) ∧ k (.str (Txt.mul x j))
  | .tuple xs, .int j => (xs ≠ [] ∧ 2 ≤ j ∧ j ≤ 1000 ∧ xs.length ≤ 1000) ∧ k (.tuple (List.replicate j.toNat xs).flatten)
  | _, _ => False
theorem sem_mul {K : PySem.W.Frag} (d1 d2 : PyData) (k : PyData → Prop) (h : MulD d1 d2 k) : Op2 B (rRepL K) d1 d2 k := by
  intro Γ Hs σ H v1 v2 Q S q1 q2 g
  cases q1 with
  | int i =>
    cases q2 with
    | int j => exact .inl ⟨i, j, rfl, rfl, h.1, g _ _ Hs H h.2 (Same.refl _) S (.int _)⟩
    | _ => exact h.elim
  | str x =>
    cases q2 with
    | int j => exact .inr (.inl ⟨x, j, rfl, rfl, h.1.1, h.1.2.1, h.1.2.2, g _ _ Hs H h.2 (Same.refl _) S (.str _)⟩)
    | _ => exact h.elim
  | @tup a xs ds r1 a1 =>
    cases q2 with
    | int j =>
      obtain ⟨⟨h1, h2, h3, h4⟩, hk⟩ := h
      refine .inr (.inr ⟨a, j, xs, rfl, rfl, rdT (rd_up S.sub r1), fun e => h1 (by subst e; cases a1; rfl), h2, h3, by rw [a1.len]; exact h4, tup_new S (dvs_rep a1 _) fun v Hs' H' s T q => g _ v Hs' H' hk s T q⟩)
    | _ => exact h.elim
  | _ => exact h.elim
theorem ge_mul {a b : Expr} {φ : PyData → List Sl → Prop} (h : GE B X a Γ fun d1 Γ1 => GE B X b Γ1 fun d2 Γ2 => MulD d1 d2 fun d => φ d Γ2) : GE B X (.BinOp a .Mult b pos) Γ φ := ge_op op_mulD MulD sem_mul h
theorem ge_mod {a b : Expr} {φ : PyData → List Sl → Prop} (h : GE B X a Γ fun d1 Γ1 => GE B X b Γ1 fun d2 Γ2 => IntD (fun _ j => 0 < j) (fun i j => i % j) d1 d2 fun d => φ d Γ2) : GE B X (.BinOp a .Mod b pos) Γ φ := ge_op op_mod (IntD (fun _ j => 0 < j) fun i j => i % j) sem_int h
theorem ge_fdiv {a b : Expr} {φ : PyData → List Sl → Prop} (h : GE B X a Γ fun d1 Γ1 => GE B X b Γ1 fun d2 Γ2 => IntD CDivW (fun i j => i / j) d1 d2 fun d => φ d Γ2) : GE B X (.BinOp a .FloorDiv b pos) Γ φ := ge_op op_fdivW (IntD CDivW fun i j => i / j) sem_int h
theorem ge_pow {a b : Expr} {φ : PyData → List Sl → Prop} (h : GE B X a Γ fun d1 Γ1 => GE B X b Γ1 fun d2 Γ2 => IntD CPow (fun i j => i ^ j.toNat) d1 d2 fun d => φ d Γ2) : GE B X (.BinOp a .Pow b pos) Γ φ := ge_op op_pow (IntD CPow fun i j => i ^ j.toNat) sem_int h
end
end Px
/-! Comparisons, tests, places of sequences, lengths. -/
namespace Px
open PySem PySem.Spec PyProof.Rows L2 Tc
/-- what stands round a piece: room for calls, no repr runs, the modules' own dict is not touched -/
structure Cxt (X : Cx) (k : Nat) : Prop where
  room : Room k X.A
  gd : X.A.guards = some []
  sm : ∃ o, X.K.lookup sysModules = some o
theorem Cxt.mono {X : Cx} {j k : Nat} (c : Cxt X k) (h : j ≤ k) : Cxt X j := ⟨c.room.mono h, c.gd, c.sm⟩
section
variable {B : Bas} {X : Cx} {Γ : List Sl} {pos : Pos}
/-! ### comparisons -/
def Cmp2 (r : R2) (d1 d2 : PyData) (k : Bool → Prop) : Prop := ∀ (H : Hp) (v1 v2 : V) (Q : VK), Dv H v1 d1 → Dv H v2 d2 → (∀ b, k b → Q (.bl b) H) → r v1 v2 H Q
theorem ge_cmp {op : CmpOp} {r : R2} {a b : Expr} {φ : PyData → List Sl → Prop} (ho : OpR X (compareOp op) r) (R : PyData → PyData → (Bool → Prop) → Prop) (sem : ∀ d1 d2 k, R d1 d2 k → Cmp2 r d1 d2 k) (hm : behindInMarks op b = false)
    (h : GE B X a Γ fun d1 Γ1 => GB B X b Γ1 fun d2 Γ2 => R d1 d2 fun c => φ (.bool c) Γ2) : GE B X (.Compare a [op] [b] pos) Γ φ := fun Hs σ H Q S g =>
  pe_of (pe_cmpR ho pe_W pe_W hm) (h Hs σ H _ S fun d1 Γ1 v1 Hs1 H1 p s1 S1 q1 => p Hs1 σ H1 _ S1 fun d2 Γ2 v2 Hs2 H2 p2 s2 S2 q2 =>
    sem d1 d2 _ p2 H2 v1 v2 Q ((q1.mono s2).mono S2.sub) q2 fun c kc => g _ Γ2 _ Hs2 H2 kc (s1.trans s2) S2 (.bl c))
theorem gt_cmp {op : CmpOp} {r : R2} {a b : Expr} {φ : Bool → List Sl → Prop} (ho : OpR X (compareOp op) r) (R : PyData → PyData → (Bool → Prop) → Prop) (sem : ∀ d1 d2 k, R d1 d2 k → Cmp2 r d1 d2 k) (hm : behindInMarks op b = false)
    (h : GE B X a Γ fun d1 Γ1 => GB B X b Γ1 fun d2 Γ2 => R d1 d2 fun c => φ c Γ2) : GT B X (.Compare a [op] [b] pos) Γ φ := fun Hs σ H Q S g =>
  pt_of (pt_cmpR ho pe_W pe_W hm) (h Hs σ H _ S fun d1 Γ1 v1 Hs1 H1 p s1 S1 q1 => p Hs1 σ H1 _ S1 fun d2 Γ2 v2 Hs2 H2 p2 s2 S2 q2 =>
    sem d1 d2 _ p2 H2 v1 v2 _ ((q1.mono s2).mono S2.sub) q2 fun c kc => ⟨c, rfl, g _ Γ2 Hs2 H2 kc (s1.trans s2) S2⟩)
/-- ==: two of the plain kinds, or two that are plain all through -/
def plain2 : PyData → PyData → Bool
  | .none, .none => true | .none, .int _ => true | .int _, .none => true | .none, .bool _ => true | .bool _, .none => true | .none, .str _ => true | .str _, .none => true
  | .int _, .int _ => true | .bool _, .bool _ => true | .str _, .str _ => true
  | .int _, .str _ => true | .str _, .int _ => true | .bool _, .str _ => true | .str _, .bool _ => true
  | _, _ => false
def rEqA : R2 := fun x y H Q => rEq x y H Q ∨ ∃ d e, Dv H x d ∧ Dv H y e ∧ SeqAt.shaped d = true ∧ SeqAt.shaped e = true ∧ Q (.bl (PyData.eqv d e)) H
def rNeA : R2 := fun x y H Q => rNe x y H Q ∨ ∃ d e, Dv H x d ∧ Dv H y e ∧ SeqAt.shaped d = true ∧ SeqAt.shaped e = true ∧ Q (.bl (!PyData.eqv d e)) H
theorem sm_none {pins : List (Addr × Obj)} {σ : L2.St} {H : Hp} {s : Shared} (hsm : ∃ o, X.K.lookup sysModules = some o) (I : Inv X pins σ H s) : H sysModules = none := by
  obtain ⟨o, ho⟩ := hsm
  exact (I.bs _ _ (I.ok.mod.kin _ _ ho)).2
theorem op_eqA {k : Nat} (c : Cxt X k) : OpR X (compareOp .Eq) rEqA := by
  intro pins s σ H x y v u Q I rx ry h
  rcases h with h | ⟨d, e, hd, he, sd, se, q⟩
  · exact op_eq pins s σ H x y v u Q I rx ry h
  · obtain ⟨as, r1, _⟩ := hd.reads I (sm_none c.sm I) v rx
    obtain ⟨bs, r2, _⟩ := he.reads I (sm_none c.sm I) u ry
    exact SeqAt.compareEq_shaped r1 r2 sd se c.room.units ⟨.bl _, H, I, rfl, q⟩
theorem op_neA {k : Nat} (c : Cxt X k) : OpR X (compareOp .NotEq) rNeA := by
  intro pins s σ H x y v u Q I rx ry h
  rcases h with h | ⟨d, e, hd, he, sd, se, q⟩
  · exact op_ne pins s σ H x y v u Q I rx ry h
  · obtain ⟨as, r1, _⟩ := hd.reads I (sm_none c.sm I) v rx
    obtain ⟨bs, r2, _⟩ := he.reads I (sm_none c.sm I) u ry
    exact SeqAt.compareNe_shaped r1 r2 sd se c.room.units ⟨.bl _, H, I, rfl, q⟩
def EqD (d1 d2 : PyData) (k : Bool → Prop) : Prop := (plain2 d1 d2 = true ∨ (SeqAt.shaped d1 = true ∧ SeqAt.shaped d2 = true)) ∧ k (PyData.eqv d1 d2)
def NeD (d1 d2 : PyData) (k : Bool → Prop) : Prop := (plain2 d1 d2 = true ∨ (SeqAt.shaped d1 = true ∧ SeqAt.shaped d2 = true)) ∧ k (!PyData.eqv d1 d2)
theorem plain_dec {H : Hp} {v1 v2 : V} {d1 d2 : PyData} (h : plain2 d1 d2 = true) (q1 : Dv H v1 d1) (q2 : Dv H v2 d2) : scal v1 v2 = true ∧ decide (v1 = v2) = PyData.eqv d1 d2 := by
  cases q1 <;> cases q2 <;> first
    | exact Bool.noConfusion h
    | exact ⟨rfl, rfl⟩
    | exact ⟨rfl, dec_int⟩
    | exact ⟨rfl, dec_bl⟩
    | exact ⟨rfl, dec_str⟩
    | exact ⟨rfl, decide_eq_false fun z => nomatch z⟩
theorem sem_eq (d1 d2 : PyData) (k : Bool → Prop) (h : EqD d1 d2 k) : Cmp2 rEqA d1 d2 k := fun H v1 v2 Q q1 q2 g => by
  obtain ⟨h | ⟨h1, h2⟩, hk⟩ := h
  · obtain ⟨e1, e2⟩ := plain_dec h q1 q2
    exact .inl ⟨e1, by rw [e2]; exact g _ hk⟩
  · exact .inr ⟨d1, d2, q1, q2, h1, h2, g _ hk⟩
theorem sem_ne (d1 d2 : PyData) (k : Bool → Prop) (h : NeD d1 d2 k) : Cmp2 rNeA d1 d2 k := fun H v1 v2 Q q1 q2 g => by
  obtain ⟨h | ⟨h1, h2⟩, hk⟩ := h
  · obtain ⟨e1, e2⟩ := plain_dec h q1 q2
    exact .inl ⟨e1, by rw [e2]; exact g _ hk⟩
  · exact .inr ⟨d1, d2, q1, q2, h1, h2, g _ hk⟩
def OrdD (p : Int → Int → Bool) (d1 d2 : PyData) (k : Bool → Prop) : Prop := match d1, d2 with
  | .int i, .int j => k (p i j)
  | _, _ => False
theorem sem_ord {p : Int → Int → Bool} (d1 d2 : PyData) (k : Bool → Prop) (h : OrdD p d1 d2 k) : Cmp2 (rI0 fun i j => .bl (p i j)) d1 d2 k := fun H v1 v2 Q q1 q2 g => by
  cases q1 with
  | int i =>
    cases q2 with
    | int j => exact ⟨i, j, rfl, rfl, g _ h⟩
    | _ => exact h.elim
  | _ => exact h.elim
abbrev LtD := OrdD fun i j => decide (i < j)
abbrev LeD := OrdD fun i j => decide (i ≤ j)
abbrev GtD := OrdD fun i j => decide (j < i)
abbrev GeD := OrdD fun i j => decide (j ≤ i)
section
variable {a b : Expr} {φ : PyData → List Sl → Prop} {ψ : Bool → List Sl → Prop} {k : Nat}
theorem ge_eq (c : Cxt X k) (h : GE B X a Γ fun d1 Γ1 => GB B X b Γ1 fun d2 Γ2 => EqD d1 d2 fun c => φ (.bool c) Γ2) : GE B X (.Compare a [.Eq] [b] pos) Γ φ := ge_cmp (op_eqA c) EqD sem_eq (nomark _) h
theorem ge_lt (h : GE B X a Γ fun d1 Γ1 => GB B X b Γ1 fun d2 Γ2 => LtD d1 d2 fun c => φ (.bool c) Γ2) : GE B X (.Compare a [.Lt] [b] pos) Γ φ := ge_cmp op_lt LtD sem_ord (nomark _) h
theorem ge_gt (h : GE B X a Γ fun d1 Γ1 => GB B X b Γ1 fun d2 Γ2 => GtD d1 d2 fun c => φ (.bool c) Γ2) : GE B X (.Compare a [.Gt] [b] pos) Γ φ := ge_cmp op_gt GtD sem_ord (nomark _) h
theorem ge_ge (h : GE B X a Γ fun d1 Γ1 => GB B X b Γ1 fun d2 Γ2 => GeD d1 d2 fun c => φ (.bool c) Γ2) : GE B X (.Compare a [.GtE] [b] pos) Γ φ := ge_cmp op_ge GeD sem_ord (nomark _) h
theorem gt_eq (c : Cxt X k) (h : GE B X a Γ fun d1 Γ1 => GB B X b Γ1 fun d2 Γ2 => EqD d1 d2 fun c => ψ c Γ2) : GT B X (.Compare a [.Eq] [b] pos) Γ ψ := gt_cmp (op_eqA c) EqD sem_eq (nomark _) h
theorem gt_ne (c : Cxt X k) (h : GE B X a Γ fun d1 Γ1 => GB B X b Γ1 fun d2 Γ2 => NeD d1 d2 fun c => ψ c Γ2) : GT B X (.Compare a [.NotEq] [b] pos) Γ ψ := gt_cmp (op_neA c) NeD sem_ne (nomark _) h
theorem gt_lt (h : GE B X a Γ fun d1 Γ1 => GB B X b Γ1 fun d2 Γ2 => LtD d1 d2 fun c => ψ c Γ2) : GT B X (.Compare a [.Lt] [b] pos) Γ ψ := gt_cmp op_lt LtD sem_ord (nomark _) h
theorem gt_gt (h : GE B X a Γ fun d1 Γ1 => GB B X b Γ1 fun d2 Γ2 => GtD d1 d2 fun c => ψ c Γ2) : GT B X (.Compare a [.Gt] [b] pos) Γ ψ := gt_cmp op_gt GtD sem_ord (nomark _) h
end
/-- a <= b <= c -/
theorem gt_chain {op op' : CmpOp} {r r' : R2} {a b c : Expr} {φ : Bool → List Sl → Prop} (ho : OpR X (compareOp op) r) (ho' : OpR X (compareOp op') r') (R R' : PyData → PyData → (Bool → Prop) → Prop) (sem : ∀ d1 d2 k, R d1 d2 k → Cmp2 r d1 d2 k) (sem' : ∀ d1 d2 k, R' d1 d2 k → Cmp2 r' d1 d2 k)
    (h : GE B X a Γ fun d1 Γ1 => GE B X b Γ1 fun d2 Γ2 => R d1 d2 fun t => if t = true then GE B X c Γ2 fun d3 Γ3 => R' d2 d3 fun u => φ u Γ3 else φ false Γ2)
    (hm : lastMarks [op, op'] [b, c] = false := by with_unfolding_all rfl) : GT B X (.Compare a [op, op'] [b, c] pos) Γ φ := fun Hs σ H Q S g =>
  pt_of (pt_chain ho ho' pe_W pe_W pe_W hm) (h Hs σ H _ S fun d1 Γ1 v1 Hs1 H1 p s1 S1 q1 => p Hs1 σ H1 _ S1 fun d2 Γ2 v2 Hs2 H2 p2 s2 S2 q2 =>
    sem d1 d2 _ p2 H2 v1 v2 _ ((q1.mono s2).mono S2.sub) (q2.mono S2.sub) fun t kt => ⟨t, rfl, by
      cases t with
      | true =>
        have kt : GE B X c Γ2 fun d3 Γ3 => R' d2 d3 fun u => φ u Γ3 := kt
        exact iteT (kt Hs2 σ H2 _ S2 fun d3 Γ3 v3 Hs3 H3 p3 s3 S3 q3 => sem' d2 d3 _ p3 H3 v2 v3 _ ((q2.mono s3).mono S3.sub) (q3.mono S3.sub) fun u ku => ⟨u, rfl, g u Γ3 Hs3 H3 ku (s1.trans (s2.trans s3)) S3⟩)
      | false => exact iteF ⟨false, rfl, g false Γ2 Hs2 H2 kt (s1.trans s2) S2⟩⟩)
theorem ge_chain {op op' : CmpOp} {r r' : R2} {a b c : Expr} {φ : PyData → List Sl → Prop} (ho : OpR X (compareOp op) r) (ho' : OpR X (compareOp op') r') (R R' : PyData → PyData → (Bool → Prop) → Prop) (sem : ∀ d1 d2 k, R d1 d2 k → Cmp2 r d1 d2 k) (sem' : ∀ d1 d2 k, R' d1 d2 k → Cmp2 r' d1 d2 k)
    (h : GE B X a Γ fun d1 Γ1 => GE B X b Γ1 fun d2 Γ2 => R d1 d2 fun t => if t = true then GE B X c Γ2 fun d3 Γ3 => R' d2 d3 fun u => φ (.bool u) Γ3 else φ (.bool false) Γ2)
    (hm : lastMarks [op, op'] [b, c] = false := by with_unfolding_all rfl) : GE B X (.Compare a [op, op'] [b, c] pos) Γ φ := fun Hs σ H Q S g =>
  pe_of (L2.pe_chain ho ho' pe_W pe_W pe_W hm) (h Hs σ H _ S fun d1 Γ1 v1 Hs1 H1 p s1 S1 q1 => p Hs1 σ H1 _ S1 fun d2 Γ2 v2 Hs2 H2 p2 s2 S2 q2 =>
    sem d1 d2 _ p2 H2 v1 v2 _ ((q1.mono s2).mono S2.sub) (q2.mono S2.sub) fun t kt => ⟨t, rfl, by
      cases t with
      | true =>
        have kt : GE B X c Γ2 fun d3 Γ3 => R' d2 d3 fun u => φ (.bool u) Γ3 := kt
        exact iteT (kt Hs2 σ H2 _ S2 fun d3 Γ3 v3 Hs3 H3 p3 s3 S3 q3 => sem' d2 d3 _ p3 H3 v2 v3 _ ((q2.mono s3).mono S3.sub) (q3.mono S3.sub) fun u ku => g _ Γ3 _ Hs3 H3 ku (s1.trans (s2.trans s3)) S3 (.bl u))
      | false => exact iteF (g _ Γ2 _ Hs2 H2 kt (s1.trans s2) S2 (.bl false))⟩)
/-! ### not, and, or -/
section
variable {a b c : Expr} {rest : List Expr} {φ : Bool → List Sl → Prop} {ψ : PyData → List Sl → Prop}
theorem gt_not (h : GT B X a Γ fun t Γ1 => φ (!t) Γ1) : GT B X (.UnaryOp .Not a pos) Γ φ := fun Hs σ H Q S g =>
  pt_of (pt_not pt_W) (h Hs σ H (fun t H' => Q (!t) H') S fun t Γ1 Hs1 H1 p s1 S1 => g _ Γ1 Hs1 H1 p s1 S1)
theorem gt_bool {op : BoolOp} {es : List Expr} (h : GW B X (.BoolOp op es pos) Γ φ) : GT B X (.BoolOp op es pos) Γ φ := fun Hs σ H Q S g => pt_of pw_W.pt (h Hs σ H Q S g)
theorem gw_or1 (h : GT B X a Γ φ) : GW B X (.BoolOp .Or [a] pos) Γ φ := fun Hs σ H Q S g => pw_of (pw_or1 pt_W) (h Hs σ H Q S g)
theorem gw_and1 (h : GT B X a Γ φ) : GW B X (.BoolOp .And [a] pos) Γ φ := fun Hs σ H Q S g => pw_of (pw_and1 pt_W) (h Hs σ H Q S g)
theorem gw_or (h : GT B X a Γ fun t Γ1 => if t = true then φ true Γ1 else GW B X (.BoolOp .Or (b :: rest) pos) Γ1 φ) : GW B X (.BoolOp .Or (a :: b :: rest) pos) Γ φ := fun Hs σ H Q S g =>
  pw_of (pw_or pt_W pw_W) (h Hs σ H _ S fun t Γ1 Hs1 H1 p s1 S1 => by
    cases t with
    | true => exact iteT (g true Γ1 Hs1 H1 p s1 S1)
    | false =>
      have p : GW B X (.BoolOp .Or (b :: rest) pos) Γ1 φ := p
      exact iteF (p Hs1 σ H1 Q S1 fun u Γ2 Hs2 H2 q s2 S2 => g u Γ2 Hs2 H2 q (s1.trans s2) S2))
theorem gw_and (h : GT B X a Γ fun t Γ1 => if t = true then GW B X (.BoolOp .And (b :: rest) pos) Γ1 φ else φ false Γ1) : GW B X (.BoolOp .And (a :: b :: rest) pos) Γ φ := fun Hs σ H Q S g =>
  pw_of (pw_and pt_W pw_W) (h Hs σ H _ S fun t Γ1 Hs1 H1 p s1 S1 => by
    cases t with
    | false => exact iteF (g false Γ1 Hs1 H1 p s1 S1)
    | true =>
      have p : GW B X (.BoolOp .And (b :: rest) pos) Γ1 φ := p
      exact iteT (p Hs1 σ H1 Q S1 fun u Γ2 Hs2 H2 q s2 S2 => g u Γ2 Hs2 H2 q (s1.trans s2) S2))
theorem ge_not (h : GE B X a Γ fun d Γ1 => ∃ t, d = .bool t ∧ ψ (.bool (!t)) Γ1) : GE B X (.UnaryOp .Not a pos) Γ ψ := fun Hs σ H Q S g =>
  pe_of (pe_not pe_W) (h Hs σ H _ S fun d Γ1 v Hs1 H1 ⟨t, e, p⟩ s1 S1 q => by
    subst e
    cases q
    exact ⟨t, rfl, g _ Γ1 _ Hs1 H1 p s1 S1 (.bl _)⟩)
theorem ge_one {op : BoolOp} (h : GE B X a Γ ψ) : GE B X (.BoolOp op [a] pos) Γ ψ := fun Hs σ H Q S g => pe_of (pe_one pe_W) (h Hs σ H Q S g)
theorem ge_and (h : GE B X a Γ fun d Γ1 => ∃ t, d = .bool t ∧ if t = true then GE B X (.BoolOp .And (b :: rest) pos) Γ1 ψ else ψ (.bool false) Γ1) : GE B X (.BoolOp .And (a :: b :: rest) pos) Γ ψ := fun Hs σ H Q S g =>
  pe_of (pe_and pe_W pe_W) (h Hs σ H _ S fun d Γ1 v Hs1 H1 ⟨t, e, p⟩ s1 S1 q => by
    subst e
    cases q
    refine ⟨t, rfl, ?_⟩
    cases t with
    | false => exact iteF (g _ Γ1 _ Hs1 H1 p s1 S1 (.bl _))
    | true =>
      have p : GE B X (.BoolOp .And (b :: rest) pos) Γ1 ψ := p
      exact iteT (p Hs1 σ H1 Q S1 fun u Γ2 w Hs2 H2 q s2 S2 r => g u Γ2 w Hs2 H2 q (s1.trans s2) S2 r))
theorem ge_if (h : GT B X c Γ fun t Γ1 => if t = true then GE B X a Γ1 ψ else GE B X b Γ1 ψ) : GE B X (.IfExp c a b pos) Γ ψ := fun Hs σ H Q S g =>
  pe_of (pe_ifExp pt_W pe_W pe_W) (h Hs σ H _ S fun t Γ1 Hs1 H1 p s1 S1 => by
    cases t with
    | true =>
      have p : GE B X a Γ1 ψ := p
      exact iteT (p Hs1 σ H1 Q S1 fun u Γ2 w Hs2 H2 q s2 S2 r => g u Γ2 w Hs2 H2 q (s1.trans s2) S2 r)
    | false =>
      have p : GE B X b Γ1 ψ := p
      exact iteF (p Hs1 σ H1 Q S1 fun u Γ2 w Hs2 H2 q s2 S2 r => g u Γ2 w Hs2 H2 q (s1.trans s2) S2 r))
end
/-! ### places, parts -/
def atD (ds : List PyData) (i : Int) : Option PyData := (ixN ds.length i).bind fun j => ds[j]?
theorem at_dvs {H : Hp} {vs : List V} {ds : List PyData} {i : Int} {d : PyData} (h : DvAll H vs ds) (e : atD ds i = some d) : ∃ v, atI vs i = some v ∧ Dv H v d := by
  unfold atD at e
  unfold atI
  rw [h.len]
  cases q : ixN ds.length i with
  | none => rw [q] at e; cases e
  | some j =>
    rw [q] at e
    exact dvs_get h e
def IxD (d1 d2 : PyData) (k : PyData → Prop) : Prop := match d1, d2 with
  | .list ds, .int i => ∃ x, atD ds i = some x ∧ k x
  | .tuple ds, .int i => ∃ x, atD ds i = some x ∧ k x
  | .str z, .int i => z.length ≤ sizeLine ∧ ∃ c, atI z.cps.toList i = some c ∧ k (.str ⟨#[c]⟩)
  | _, _ => False
theorem ge_ix {a b : Expr} {φ : PyData → List Sl → Prop} (hs : PlainIx b) (h : GE B X a Γ fun d1 Γ1 => GE B X b Γ1 fun d2 Γ2 => IxD d1 d2 fun d => φ d Γ2) : GE B X (.Subscript a b pos) Γ φ := fun Hs σ H Q S g =>
  pe_of (pe_ix ix_seq pe_W pe_W hs) (h Hs σ H _ S fun d1 Γ1 v1 Hs1 H1 p s1 S1 q1 => p Hs1 σ H1 _ S1 fun d2 Γ2 v2 Hs2 H2 p2 s2 S2 q2 => by
    have q1 := q1.mono s2
    cases q2 with
    | int i =>
      cases q1 with
      | lst r a =>
        obtain ⟨x, e, kx⟩ := p2
        obtain ⟨v, ev, dv⟩ := at_dvs a e
        exact .inl ⟨_, _, i, v, rfl, rfl, rdL (rd_up S2.sub r), ev, g x Γ2 v Hs2 H2 kx (s1.trans s2) S2 dv⟩
      | tup r a =>
        obtain ⟨x, e, kx⟩ := p2
        obtain ⟨v, ev, dv⟩ := at_dvs a e
        exact .inr (.inl ⟨_, _, i, v, rfl, rfl, rdT (rd_up S2.sub r), ev, g x Γ2 v Hs2 H2 kx (s1.trans s2) S2 dv⟩)
      | str z =>
        obtain ⟨hz, c, e, kx⟩ := p2
        exact .inr (.inr ⟨z, i, c, rfl, rfl, hz, e, g _ Γ2 _ Hs2 H2 kx (s1.trans s2) S2 (.str _)⟩)
      | _ => exact p2.elim
    | _ => cases q1 <;> exact p2.elim)
/-- of a list of one's own -/
theorem ge_ixO (i : Nat) {x : Str} {p0 : Pos} {b : Expr} {ad : Addr} {ds : List PyData} {φ : PyData → List Sl → Prop} (hN : X.N[i]? = some x) (hΓ : Γ[i]? = some (.own ad ds)) (hv : Vis X.env.scope x) (hs : PlainIx b) (h : GE B X b Γ fun d2 Γ2 => ∃ es, Γ2[i]? = some (.own ad es) ∧ IxD (.list es) d2 fun d => φ d Γ2)
    (hd : (x == ("__debug__" : Str)) = false := by decide) (hcd : (x == ("__classdict__" : Str)) = false := by decide) : GE B X (.Subscript (.Name x p0) b pos) Γ φ := fun Hs σ H Q S g => by
  obtain ⟨e, _⟩ := S.lst hΓ
  refine pe_of (pe_ix ix_list (pe_var hN hv hd hcd) pe_W hs) ⟨_, e, h Hs σ H _ S fun d2 Γ2 v2 Hs2 H2 ⟨es, hΓ2, p2⟩ s2 S2 q2 => ?_⟩
  obtain ⟨_, _, _, vs, hv2, dv⟩ := S2.lst hΓ2
  cases q2 with
  | int j =>
    obtain ⟨x, ex, kx⟩ := p2
    obtain ⟨v, ev, dx⟩ := at_dvs dv ex
    exact ⟨ad, vs, j, v, rfl, rfl, .inl (.inl hv2), ev, g x Γ2 v Hs2 H2 kx s2 S2 dx⟩
  | _ => exact p2.elim
/-! ### length -/
def LenD (d : PyData) (k : Int → Prop) : Prop := match d with
  | .list ds => k ds.length
  | .tuple ds => k ds.length
  | .str z => z.length ≤ sizeLine ∧ k z.length
  | _ => False
theorem ge_len {x : Str} {p : Pos} {a : Expr} {φ : PyData → List Sl → Prop} (hx : x = "len") (hg : Gl X x) (hm : X.mg x = none) (h : GB B X a Γ fun d Γ1 => LenD d fun n => φ (.int n) Γ1)
    (he : starEach [a] X.env = (false, eval a X.env) :: starEach [] X.env := by rfl) : GE B X (.Call (.Name x p) [a] [] pos) Γ φ := by
  subst hx
  intro Hs σ H Q S g
  refine pe_of (pe_callB call_len hg hm (by decide +kernel) (pa_cons pe_W pa_nil he) (he := he)) (show teW X a σ H _ from h Hs σ H _ S fun d Γ1 v Hs1 H1 p s1 S1 q => ?_)
  show ∃ x n, [v] = [x] ∧ _
  cases q with
  | lst r a => exact ⟨_, _, rfl, .inl ⟨_, rdL r, rfl⟩, by rw [a.len]; exact g _ Γ1 _ Hs1 H1 p s1 S1 (.int _)⟩
  | tup r a => exact ⟨_, _, rfl, .inr ⟨_, rdT r, rfl⟩, by rw [a.len]; exact g _ Γ1 _ Hs1 H1 p s1 S1 (.int _)⟩
  | str z => exact ⟨_, _, rfl, ⟨p.1, rfl⟩, g _ Γ1 _ Hs1 H1 p.2 s1 S1 (.int _)⟩
  | _ => exact p.elim
end
end Px
/-! Statements, and defs. -/
namespace Px
open PySem PySem.Spec PyProof.Rows L2 Tc
/-- what is wanted behind a statement, of the data -/
structure DE where
  nx : List Sl → Prop
  rt : PyData → List Sl → Prop
  bk : List Sl → Prop := fun _ => False
  ct : List Sl → Prop := fun _ => False
structure Real (B : Bas) (D : Ends) (E : DE) (H0 : Hp) : Prop where
  nx : ∀ Γ Hs σ H, E.nx Γ → Same H0 Hs → Sx B Hs σ H Γ → D.nx σ H
  rt : ∀ d Γ v Hs σ H, E.rt d Γ → Same H0 Hs → Sx B Hs σ H Γ → Dv Hs v d → D.rt v H
  bk : ∀ Γ Hs σ H, E.bk Γ → Same H0 Hs → Sx B Hs σ H Γ → D.bk σ H
  ct : ∀ Γ Hs σ H, E.ct Γ → Same H0 Hs → Sx B Hs σ H Γ → D.ct σ H
theorem Real.up {B : Bas} {D : Ends} {E : DE} {H0 H1 : Hp} (R : Real B D E H0) (s : Same H0 H1) : Real B D E H1 := ⟨fun Γ Hs σ H p k S => R.nx Γ Hs σ H p (s.trans k) S, fun d Γ v Hs σ H p k S q => R.rt d Γ v Hs σ H p (s.trans k) S q, fun Γ Hs σ H p k S => R.bk Γ Hs σ H p (s.trans k) S, fun Γ Hs σ H p k S => R.ct Γ Hs σ H p (s.trans k) S⟩
/-- a def's body -/
structure Bod (X : Cx) (k : Nat) : Prop extends Cxt X k where
  nd : X.N.Nodup
  calm : X.calm = true
  po : PassesOwn (model X.prog X.w) X.A X.env X.xe
/-- what an error of one's own may find: its class, its value -/
def Exc (B : Bas) (X : Cx) (ψ : Addr → PyData → List Sl → Prop) : Prop := ∃ W : WX, Takes X W ∧ ∀ C d Γ v Hs σ H, ψ C d Γ → Sx B Hs σ H Γ → Dv Hs v d → ∀ dd, H dd = none → W (.ref C) (some dd) σ (upd H dd (.xd [("given", v)]))
theorem Exc.none {B : Bas} {X : Cx} : Exc B X (fun _ _ _ => False) := ⟨fun _ _ _ _ => False, takes0, fun _ _ _ _ _ _ _ h => h.elim⟩
theorem Exc.imp {B : Bas} {X : Cx} {ψ χ : Addr → PyData → List Sl → Prop} (h : Exc B X ψ) (i : ∀ C d Γ, χ C d Γ → ψ C d Γ) : Exc B X χ := by
  obtain ⟨W, t, h⟩ := h
  exact ⟨W, t, fun C d Γ v Hs σ H x => h C d Γ v Hs σ H (i C d Γ x)⟩
section
variable (B : Bas) (X : Cx)
def G1 (st : Stmt) (Γ : List Sl) (E : DE) : Prop := ∀ (D : Ends) (Hs : Hp) (σ : L2.St) (H : Hp), Real B D E Hs → Sx B Hs σ H Γ → tsW X st D σ H
def Gs (sts : List Stmt) (Γ : List Sl) (E : DE) : Prop := ∀ (D : Ends) (Hs : Hp) (σ : L2.St) (H : Hp), Real B D E Hs → Sx B Hs σ H Γ → tssW X sts D σ H
end
section
variable {B : Bas} {X : Cx} {Γ : List Sl} {E : DE} {pos : Pos} {k : Nat}
theorem gs_nil (h : E.nx Γ) : Gs B X [] Γ E := fun D Hs σ H R S => pss_of pss_nil (R.nx Γ Hs σ H h (Same.refl _) S)
theorem gs_cons {st : Stmt} {rest : List Stmt} (h : G1 B X st Γ { E with nx := fun Γ1 => Gs B X rest Γ1 E }) : Gs B X (st :: rest) Γ E := fun D Hs σ H R S =>
  pss_of (pss_cons ps_W pss_W) (h { D with nx := tssW X rest D } Hs σ H ⟨fun Γ1 Hs1 σ1 H1 p s S1 => p D Hs1 σ1 H1 (R.up s) S1, R.rt, R.bk, R.ct⟩ S)
theorem g1_expr {e : Expr} (h : GE B X e Γ fun _ Γ1 => E.nx Γ1) (hs : swapsWith e none pos.line X.env = pure false := by rfl) : G1 B X (.Expr e pos) Γ E := fun D Hs σ H R S =>
  ps_of (ps_expr pe_W hs) (h Hs σ H _ S fun d Γ1 v Hs1 H1 p s S1 _ => R.nx Γ1 Hs1 σ H1 p s S1)
theorem g1_ret {e : Expr} (h : GE B X e Γ fun d Γ1 => E.rt d Γ1) : G1 B X (.Return (some e) pos) Γ E := fun D Hs σ H R S =>
  ps_of (ps_ret pe_W) (h Hs σ H _ S fun d Γ1 v Hs1 H1 p s S1 q => R.rt d Γ1 v Hs1 σ H1 p s S1 q)
theorem g1_if {c : Expr} {a b : List Stmt} (h : GT B X c Γ fun t Γ1 => if t = true then Gs B X a Γ1 E else Gs B X b Γ1 E) : G1 B X (.If c a b pos) Γ E := fun D Hs σ H R S =>
  ps_of (ps_if pt_W pss_W pss_W) (h Hs σ H _ S fun t Γ1 Hs1 H1 p s S1 => by
    cases t with
    | true =>
      have p : Gs B X a Γ1 E := p
      exact iteT (p D Hs1 σ H1 (R.up s) S1)
    | false =>
      have p : Gs B X b Γ1 E := p
      exact iteF (p D Hs1 σ H1 (R.up s) S1))
theorem g1_set (c : Bod X k) (i : Nat) {x : Str} {e : Expr} {pos' : Pos} (hi : X.N[i]? = some x) (hx : Loc X.env.scope x) (h : GE B X e Γ fun d Γ1 => i < Γ1.length ∧ E.nx (Γ1.set i (.d d)))
    (hs : swapsWith e (some (.Name x pos')) pos.line X.env = pure false := by rfl) (hf : X.fn x = true ∨ X.env.scope.names.lookup x = some .local := by first | exact .inl rfl | exact .inr rfl | assumption) : G1 B X (.Assign [.Name x pos'] e pos) Γ E := fun D Hs σ H R S =>
  ps_of (ps_set c.nd hi hx pe_W hs hf) (h Hs σ H _ S fun d Γ1 v Hs1 H1 ⟨l, p⟩ s S1 q => R.nx _ Hs1 _ H1 p s (S1.putD l q))
/-- a new list, to be changed -/
theorem g1_setL (c : Bod X k) (i : Nat) {x : Str} {e : Expr} {pos' : Pos} (hi : X.N[i]? = some x) (hx : Loc X.env.scope x) (h : GF B X e Γ fun ds Γ1 => i < Γ1.length ∧ ∀ a, Alone Γ1 a → E.nx (Γ1.set i (.own a ds)))
    (hs : swapsWith e (some (.Name x pos')) pos.line X.env = pure false := by rfl) (hf : X.fn x = true ∨ X.env.scope.names.lookup x = some .local := by first | exact .inl rfl | exact .inr rfl | assumption) : G1 B X (.Assign [.Name x pos'] e pos) Γ E := fun D Hs σ H R S =>
  ps_of (ps_set c.nd hi hx pe_W hs hf) (h Hs σ H _ S fun ds Γ1 a vs Hs1 H1 ⟨l, p⟩ s S1 f n al ha q => R.nx _ Hs1 _ H1 (p a al) s (S1.putL l f n ha q al))
end
/-! ### targets -/
section
variable (X : Cx)
@[irreducible] def tgW (t : Expr) : TG := fun v σ H Q => ∀ (pins : List (Addr × Obj)) (s : Shared) (u : Value), Inv X pins σ H s → RelV v u → wpAny (model X.prog X.w) X.A (assign t X.env u) (fun _ s' => ∃ σ' H', Inv X pins σ' H' s' ∧ Q σ' H') X.xe s
variable {X}
theorem tgI {t : Expr} {v : V} {σ : L2.St} {H : Hp} {Q : L2.St → Hp → Prop} (h : ∀ (pins : List (Addr × Obj)) (s : Shared) (u : Value), Inv X pins σ H s → RelV v u → wpAny (model X.prog X.w) X.A (assign t X.env u) (fun _ s' => ∃ σ' H', Inv X pins σ' H' s' ∧ Q σ' H') X.xe s) : tgW X t v σ H Q := by unfold tgW; exact h
theorem tgE {t : Expr} {v : V} {σ : L2.St} {H : Hp} {Q : L2.St → Hp → Prop} (h : tgW X t v σ H Q) : ∀ (pins : List (Addr × Obj)) (s : Shared) (u : Value), Inv X pins σ H s → RelV v u → wpAny (model X.prog X.w) X.A (assign t X.env u) (fun _ s' => ∃ σ' H', Inv X pins σ' H' s' ∧ Q σ' H') X.xe s := by unfold tgW at h; exact h
theorem pg_W {t : Expr} : PG X t (tgW X t) := ⟨fun pins s _ _ _ u _ I r h => tgE h pins s u I r⟩
theorem pg_of {t : Expr} {g : TG} (p : PG X t g) {v : V} {σ : L2.St} {H : Hp} {Q : L2.St → Hp → Prop} (h : g v σ H Q) : tgW X t v σ H Q := tgI fun pins s u I r => p.run pins s σ H v u Q I r h
end
/-- data are given to a target -/
def GG (B : Bas) (X : Cx) (t : Expr) (d : PyData) (Γ : List Sl) (φ : List Sl → Prop) : Prop := ∀ (Hs : Hp) (σ : L2.St) (H : Hp) (v : V) (Q : L2.St → Hp → Prop), Sx B Hs σ H Γ → Dv Hs v d → (∀ Γ' Hs' σ' H', φ Γ' → Same Hs Hs' → Sx B Hs' σ' H' Γ' → Q σ' H') → tgW X t v σ H Q
/-- several -/
def GGs (B : Bas) (X : Cx) (ts : List Expr) (ds : List PyData) (Γ : List Sl) (φ : List Sl → Prop) : Prop := ∃ g, PGs X ts g ∧ ∀ (Hs : Hp) (σ : L2.St) (H : Hp) (vs : List V) (Q : L2.St → Hp → Prop), Sx B Hs σ H Γ → DvAll Hs vs ds → (∀ Γ' Hs' σ' H', φ Γ' → Same Hs Hs' → Sx B Hs' σ' H' Γ' → Q σ' H') → g vs σ H Q
section
variable {B : Bas} {X : Cx} {Γ : List Sl} {E : DE} {pos : Pos} {k : Nat}
theorem gg_name (nd : X.N.Nodup) (i : Nat) {x : Str} {d : PyData} {φ : List Sl → Prop} (hi : X.N[i]? = some x) (hx : Loc X.env.scope x) (h : i < Γ.length ∧ φ (Γ.set i (.d d))) (hf : X.fn x = true ∨ X.env.scope.names.lookup x = some .local := by first | exact .inl rfl | exact .inr rfl | assumption) : GG B X (.Name x pos) d Γ φ := fun Hs σ H v Q S q g =>
  pg_of (pg_name (i := i) nd hi hx hf) (g _ Hs _ H h.2 (Same.refl _) (S.putD h.1 q))
theorem ggs_nil {φ : List Sl → Prop} (h : φ Γ) : GGs B X [] [] Γ φ := ⟨gNil, pgs_nil, fun Hs σ H vs Q S q g => ⟨dvs_nil q, g Γ Hs σ H h (Same.refl _) S⟩⟩
theorem ggs_cons {t : Expr} {ts : List Expr} {d : PyData} {ds : List PyData} {φ : List Sl → Prop} (M : List Sl) (h : GG B X t d Γ (· = M)) (h2 : GGs B X ts ds M φ)
    (hs : (assignEach (t :: ts) X.env).map (·.2) = assign t X.env :: (assignEach ts X.env).map (·.2) := by rfl) : GGs B X (t :: ts) (d :: ds) Γ φ := by
  obtain ⟨u, q, h2⟩ := h2
  refine ⟨gCons (tgW X t) u, pgs_cons pg_W q hs, fun Hs σ H vs Q S dv k => ?_⟩
  cases dv with
  | cons a r => exact ⟨_, _, rfl, h Hs σ H _ _ S a fun Γ1 Hs1 σ1 H1 e s S1 => by
      subst e
      exact h2 Hs1 σ1 H1 _ Q S1 (r.mono s) fun Γ2 Hs2 σ2 H2 p2 s2 S2 => k Γ2 Hs2 σ2 H2 p2 (s.trans s2) S2⟩
theorem gg_tup (calm : X.calm = true) {ts : List Expr} {n1 : Nat} {ds : List PyData} {φ : List Sl → Prop} (h : GGs B X ts ds Γ φ) {n : Nat} (hn : (assignEach ts X.env).length = n := by rfl) (hl : ds.length = n := by rfl) (hst : (assignEach ts X.env).findIdx? (·.1) = none := by rfl) : GG B X (.Tuple ts n1 pos) (.tuple ds) Γ φ := fun Hs σ H v Q S q k => by
  obtain ⟨g, p, h⟩ := h
  refine pg_of (pg_tup calm p hn hst) ?_
  cases q with
  | tup r a => exact ⟨_, _, rfl, rdT (rd_up S.sub r), a.len.trans hl, h Hs σ H _ Q S a k⟩
theorem g1_asg {t e : Expr} (h : GE B X e Γ fun d Γ1 => GG B X t d Γ1 E.nx) (hs : swapsWithSole [t] e pos.line X.env = pure false := by rfl) (hw : swappedStores [t] e X.env = pure none := by rfl)
    (h1 : (assignEach [t] X.env).map (·.2) = [assign t X.env] := by rfl) : G1 B X (.Assign [t] e pos) Γ E := fun D Hs σ H R S =>
  ps_of (ps_asg pe_W pg_W hs hw h1) (h Hs σ H _ S fun d Γ1 v Hs1 H1 p s S1 q => p Hs1 σ H1 v D.nx S1 q fun Γ2 Hs2 σ2 H2 n s2 S2 => R.nx Γ2 Hs2 σ2 H2 n (s.trans s2) S2)
/-- a list of one's own is changed at a place -/
theorem g1_put (i : Nat) {x : Str} {e j : Expr} {p0 ps : Pos} {ad : Addr} (hN : X.N[i]? = some x) (hv : Vis X.env.scope x)
    (h : GE B X e Γ fun d Γ1 => (∃ ds, Γ1[i]? = some (.own ad ds)) ∧ GE B X j Γ1 fun dj Γ2 => ∃ ds m, Γ2[i]? = some (.own ad ds) ∧ ∃ n, dj = .int n ∧ ixN ds.length n = some m ∧ E.nx (Γ2.set i (.own ad (ds.set m d))))
    (hd : (x == ("__debug__" : Str)) = false := by decide) (hcd : (x == ("__classdict__" : Str)) = false := by decide)
    (ha : ∀ v, assign (.Subscript (.Name x p0) j ps) X.env v = (do
      let ov ← holding [v] (eval (.Name x p0) X.env)
      let iv ← holding [v, ov] (eval j X.env)
      standAt ps
      holding [v, ov, iv] (setItem ov iv v)
      release [v, ov, iv] []) := by intro _; rfl)
    (hs : swapsWithSole [.Subscript (.Name x p0) j ps] e pos.line X.env = pure false := by rfl) (hw : swappedStores [.Subscript (.Name x p0) j ps] e X.env = pure none := by rfl)
    (h1 : (assignEach [.Subscript (.Name x p0) j ps] X.env).map (·.2) = [assign (.Subscript (.Name x p0) j ps) X.env] := by rfl) : G1 B X (.Assign [.Subscript (.Name x p0) j ps] e pos) Γ E := fun D Hs σ H R S =>
  ps_of (ps_asg pe_W (pg_sub (pe_var hN hv hd hcd) pe_W set_list ha) hs hw h1) (h Hs σ H _ S fun d Γ1 v Hs1 H1 ⟨⟨ds1, g1⟩, p⟩ s S1 q => by
    obtain ⟨e1, _⟩ := S1.lst g1
    refine ⟨_, e1, p Hs1 σ H1 _ S1 fun dj Γ2 vj Hs2 H2 ⟨ds, m, g2, n, ej, ix, nx⟩ s2 S2 qj => ?_⟩
    subst ej
    cases qj
    obtain ⟨_, _, _, vs, hv2, dv⟩ := S2.lst g2
    exact ⟨ad, vs, n, m, rfl, rfl, hv2, by rw [dv.len]; exact ix, R.nx _ Hs2 σ _ nx (s.trans s2) (S2.upd g2 (dvs_set m dv (q.mono s2)))⟩)
end
end Px
/-! Loops and comprehensions. -/
namespace Px
open PySem PySem.Spec PyProof.Rows L2 Tc
section
variable (X : Cx) (tg : Expr)
@[irreducible] def tiW (iter : Expr) : TI := fun σ H R => ∀ (pins : List (Addr × Obj)) (s : Shared), Inv X pins σ H s → wpAny (model X.prog X.w) X.A (eval iter X.env) (fun v s1 => wpAny (model X.prog X.w) X.A (pyIter v) (PIE X pins σ tg R) X.xe s1) X.xe s
variable {X tg}
theorem tiI {iter : Expr} {σ : L2.St} {H : Hp} {R : It → Hp → Prop} (h : ∀ (pins : List (Addr × Obj)) (s : Shared), Inv X pins σ H s → wpAny (model X.prog X.w) X.A (eval iter X.env) (fun v s1 => wpAny (model X.prog X.w) X.A (pyIter v) (PIE X pins σ tg R) X.xe s1) X.xe s) : tiW X tg iter σ H R := by unfold tiW; exact h
theorem tiE {iter : Expr} {σ : L2.St} {H : Hp} {R : It → Hp → Prop} (h : tiW X tg iter σ H R) : ∀ (pins : List (Addr × Obj)) (s : Shared), Inv X pins σ H s → wpAny (model X.prog X.w) X.A (eval iter X.env) (fun v s1 => wpAny (model X.prog X.w) X.A (pyIter v) (PIE X pins σ tg R) X.xe s1) X.xe s := by unfold tiW at h; exact h
theorem pi_W {iter : Expr} : PI X tg iter (tiW X tg iter) := ⟨fun pins s _ _ _ I h => tiE h pins s I⟩
theorem pi_of {iter : Expr} {wi : TI} (p : PI X tg iter wi) {σ : L2.St} {H : Hp} {R : It → Hp → Prop} (h : wi σ H R) : tiW X tg iter σ H R := tiI fun pins s I => p.run pins s σ H R I h
end
/-- n items, f i the i-th of them, while the slots keep what is asked -/
def Its (keep : List Sl → Prop) (Hs1 : Hp) (J : It) (n : Nat) (f : Nat → PyData) : Prop := ∃ (G : Hp → Prop) (Y : Nat → Hp → V → Hp → Prop), Walk J n G Y ∧
  (∀ B Hs σ H Γ, keep Γ → Same Hs1 Hs → Sx B Hs σ H Γ → G H) ∧ ∀ B i Hs σ H Γ x H', i < n → keep Γ → Same Hs1 Hs → Sx B Hs σ H Γ → Y i H x H' → ∃ Hs', Same Hs Hs' ∧ Sx B Hs' σ H' Γ ∧ Dv Hs' x (f i)
def GI (B : Bas) (X : Cx) (tg iter : Expr) (Γ : List Sl) (φ : Nat → (Nat → PyData) → (List Sl → Prop) → List Sl → Prop) : Prop := ∀ (Hs : Hp) (σ : L2.St) (H : Hp) (R : It → Hp → Prop), Sx B Hs σ H Γ →
  (∀ n f keep Γ1 J Hs1 H1, φ n f keep Γ1 → Same Hs Hs1 → Sx B Hs1 σ H1 Γ1 → Its keep Hs1 J n f → R J H1) → tiW X tg iter σ H R
abbrev nth (ds : List PyData) : Nat → PyData := fun i => ds.getD i .none
theorem nth_at {ds : List PyData} {i : Nat} {d : PyData} (h : ds[i]? = some d) : nth ds i = d := by
  show ds.getD i .none = d
  rw [List.getD_eq_getElem?_getD, h] <;> rfl
section
variable {X : Cx} {tg : Expr}
def iSeq (K : PySem.W.Frag) (tl : TE) : TI := fun σ H R => tl σ H fun x H1 => (∃ a, x = .ref a ∧ (∃ xs, SqL K H1 a xs) ∧ R (Itl K a) H1) ∨ ∃ a, x = .ref a ∧ (∃ xs, SqT K H1 a xs) ∧ R (Itt K a) H1
theorem pi_seq {l : Expr} {tl : TE} (hl : PE X l tl) : PI X tg l (iSeq X.K tl) := by
  refine ⟨fun pins s σ H R I h => ?_⟩
  refine thn (hl.run pins s σ H _ I h) fun v s1 ⟨x, H1, I1, r1, q1⟩ => ?_
  rcases q1 with ⟨a, e, ⟨xs, hq⟩, q⟩ | ⟨a, e, ⟨xs, hq⟩, q⟩
  · subst e
    cases r1
    obtain ⟨its, rv, p, hz⟩ := I1.list hq
    refine wpAny_pyIter_list p.isList ?_
    refine ⟨s1.heap.objs.size, [s1.heap.objs.size], _, _, H1, rfl, I1.kept (t' := s1.toks) fun b o e => Heap.get?_push_of_some _ e, turn_list a _, ⟨_, Heap.get?_push_size _ rfl, rfl, rfl⟩, fun b hb => ?_, q⟩
    have e : b = s1.heap.objs.size := by simpa using hb
    subst e
    exact I1.fpOk (Nat.le_refl _) (I1.hok.fresh (Nat.le_refl _))
  · subst e
    cases r1
    obtain ⟨its, rv, p, hz⟩ := I1.tuple hq
    refine wpAny_pyIter_tuple (show s1.heap.IsTuple a its.toArray from p) ?_
    refine ⟨s1.heap.objs.size, [s1.heap.objs.size], _, _, H1, rfl, I1.kept (t' := s1.toks) fun b o e => Heap.get?_push_of_some _ e, turn_tuple a _, ⟨_, Heap.get?_push_size _ rfl, rfl, rfl⟩, fun b hb => ?_, q⟩
    have e : b = s1.heap.objs.size := by simpa using hb
    subst e
    exact I1.fpOk (Nat.le_refl _) (I1.hok.fresh (Nat.le_refl _))
end
section
variable {B : Bas} {X : Cx} {Γ : List Sl} {E : DE} {pos : Pos} {k : Nat} {tg : Expr}
/-- what a walk over a sequence is over -/
def SeqD (d : PyData) (k : List PyData → Prop) : Prop := match d with
  | .list ds => k ds
  | .tuple ds => k ds
  | _ => False
theorem its_at {ks : Bool} {Hs : Hp} {a : Addr} {vs : List V} {ds : List PyData} {K : PySem.W.Frag} (r : if ks = true then Rd Hs a (.lst vs) else Rd Hs a (.tup vs)) (d : DvAll Hs vs ds) : Its (fun _ => True) Hs (if ks = true then Itl K a else Itt K a) ds.length (nth ds) := by
  have y : ∀ B i Hs2 σ H Γ x H', Same Hs Hs2 → Sx B Hs2 σ H Γ → YAt vs i H x H' → ∃ Hs', Same Hs2 Hs' ∧ Sx B Hs' σ H' Γ ∧ Dv Hs' x (nth ds i) := by
    rintro B i Hs2 σ H Γ x _ s2 S ⟨rfl, e⟩
    obtain ⟨d', e', dv⟩ := dvs_get' d e
    rw [nth_at e']
    exact ⟨Hs2, Same.refl _, S, dv.mono s2⟩
  cases ks with
  | true =>
    refine ⟨_, _, d.len ▸ walk_list (K := K) (a := a) (xs := vs), fun B Hs2 σ H Γ _ s2 S => rdL (rd_up S.sub (rd_up s2 r)), fun B i Hs2 σ H Γ x H' _ _ s2 S h => y B i Hs2 σ H Γ x H' s2 S h⟩
  | false =>
    refine ⟨_, _, d.len ▸ walk_tup (K := K) (a := a) (xs := vs), fun B Hs2 σ H Γ _ s2 S => rdT (rd_up S.sub (rd_up s2 r)), fun B i Hs2 σ H Γ x H' _ _ s2 S h => y B i Hs2 σ H Γ x H' s2 S h⟩
theorem gi_seq {e : Expr} {φ : Nat → (Nat → PyData) → (List Sl → Prop) → List Sl → Prop} (h : GE B X e Γ fun d Γ1 => SeqD d fun ds => φ ds.length (nth ds) (fun _ => True) Γ1) : GI B X tg e Γ φ := fun Hs σ H R S g =>
  pi_of (pi_seq pe_W) (show teW X e σ H _ from h Hs σ H _ S fun d Γ1 v Hs1 H1 p s S1 q => by
    cases q with
    | lst r a => exact .inl ⟨_, rfl, ⟨_, rdL (rd_up S1.sub r)⟩, g _ _ _ Γ1 _ Hs1 H1 p s S1 (its_at (ks := true) r a)⟩
    | tup r a => exact .inr ⟨_, rfl, ⟨_, rdT (rd_up S1.sub r)⟩, g _ _ _ Γ1 _ Hs1 H1 p s S1 (its_at (ks := false) r a)⟩
    | _ => exact p.elim)
/-! ### ranges -/
theorem its_rg {lo : Int} {n : Nat} {Hs : Hp} : Its (fun _ => True) Hs (Itr lo n) n (fun i => .int (lo + i)) := ⟨_, _, walk_range, fun _ _ _ _ _ _ _ _ => trivial, by
  rintro B i Hs2 σ H Γ x _ _ _ s2 S ⟨rfl, rfl⟩
  exact ⟨Hs2, Same.refl _, S, .int _⟩⟩
section
variable {p : Pos} {a b c : Expr} {φ : Nat → (Nat → PyData) → (List Sl → Prop) → List Sl → Prop}
theorem gi_rg1 {x : Str} (hx : x = "range") (hg : Gl X x) (hm : X.mg x = none) (h : GA B X [a] Γ fun ds Γ1 => ∃ j : Int, ds = [.int j] ∧ -(2 ^ 62) ≤ j ∧ j < 2 ^ 62 ∧ φ j.toNat (fun i => .int (0 + (i : Int))) (fun _ => True) Γ1) (hs : starEach [a] X.env = [(false, eval a X.env)] := by rfl) : GI B X tg (.Call (.Name x p) [a] [] pos) Γ φ := by
  subst hx
  exact fun Hs σ H R S g => pi_of (pi_range1 hg hm pa_W hs) (h Hs σ H _ S fun ds Γ1 vs Hs1 H1 ⟨j, e, l1, l2, q⟩ s S1 dv => by
    subst e
    have ev := dvs_ints (ns := [j]) dv
    exact ⟨j, ev, l1, l2, g _ _ _ Γ1 _ Hs1 H1 q s S1 its_rg⟩)
end
/-! ### for -/
theorem g1_for (c : Bod X k) {t iter : Expr} {body : List Stmt} (h : GI B X t iter Γ fun n f keep Γ1 => ∃ I : Nat → List Sl → Prop, I 0 Γ1 ∧ (∀ i Γ, i ≤ n → I i Γ → keep Γ) ∧
      (∀ i Γ, i < n → I i Γ → GG B X t (f i) Γ fun Γ' => Gs B X body Γ' { E with nx := I (i + 1), ct := I (i + 1), bk := E.nx }) ∧ ∀ Γ, I n Γ → E.nx Γ)
    (hs : ∀ x, foldedSetIterable iter X.env x = pure x := by intro _; rfl) : G1 B X (.For t iter body [] pos) Γ E := fun D Hs σ H R S =>
  ps_of (ps_for c.po c.calm pi_W pg_W pss_W hs) (h Hs σ H _ S fun n f keep Γ1 J Hs1 H1 ⟨I, i0, ik, step, done⟩ s S1 ⟨G, Y, w, wg, wy⟩ => by
    refine for_it w (fun i σ' H' => ∃ Γ' Hs', I i Γ' ∧ Same Hs1 Hs' ∧ Sx B Hs' σ' H' Γ') ⟨Γ1, Hs1, i0, Same.refl _, S1⟩ ?_ ?_ ?_
    · rintro i σ' H' hi ⟨Γ', Hs', p, s', S'⟩
      exact wg B Hs' σ' H' Γ' (ik i Γ' hi p) s' S'
    · rintro i x σ' H' H'' hi ⟨Γ', Hs', p, s', S'⟩ y
      obtain ⟨Hs2, s2, S2, dv⟩ := wy B i Hs' σ' H' Γ' x H'' hi (ik i Γ' (Nat.le_of_lt hi) p) s' S' y
      refine step i Γ' hi p Hs2 σ' H'' x _ S2 dv fun Γ3 Hs3 σ3 H3 body s3 S3 => ?_
      have s13 : Same Hs1 Hs3 := s'.trans (s2.trans s3)
      refine body { D with nx := fun σ' H' => ∃ Γ' Hs', I (i + 1) Γ' ∧ Same Hs1 Hs' ∧ Sx B Hs' σ' H' Γ', ct := fun σ' H' => ∃ Γ' Hs', I (i + 1) Γ' ∧ Same Hs1 Hs' ∧ Sx B Hs' σ' H' Γ', bk := D.nx } Hs3 σ3 H3 ⟨fun Γ4 Hs4 σ4 H4 p4 s4 S4 => ⟨Γ4, Hs4, p4, s13.trans s4, S4⟩, fun d Γ4 v Hs4 σ4 H4 p4 s4 S4 q4 => R.rt d Γ4 v Hs4 σ4 H4 p4 (s.trans (s13.trans s4)) S4 q4, fun Γ4 Hs4 σ4 H4 p4 s4 S4 => R.nx Γ4 Hs4 σ4 H4 p4 (s.trans (s13.trans s4)) S4, fun Γ4 Hs4 σ4 H4 p4 s4 S4 => ⟨Γ4, Hs4, p4, s13.trans s4, S4⟩⟩ S3
    · rintro σ' H' ⟨Γ', Hs', p, s', S'⟩
      exact R.nx Γ' Hs' σ' H' (done Γ' p) (s.trans s') S')
end
/-! ### comprehensions -/
def clr (Γ : List Sl) : List Nat → List Sl
  | [] => Γ
  | v :: vs => (clr Γ vs).set v .no
theorem clr_len (Γ : List Sl) : ∀ vs, (clr Γ vs).length = Γ.length
  | [] => rfl
  | v :: vs => by
    show ((clr Γ vs).set v .no).length = _
    rw [List.length_set, clr_len Γ vs]
theorem clr_in {Γ : List Sl} {j : Nat} {s : Sl} : ∀ {vs : List Nat}, j ∈ vs → (clr Γ vs)[j]? = some s → s = .no
  | v :: vs, h, e => by
    rcases get_set (show ((clr Γ vs).set v .no)[j]? = some s from e) with ⟨_, z⟩ | ⟨n, e⟩
    · exact z
    · rcases List.mem_cons.mp h with z | z
      · exact absurd z n
      · exact clr_in z e
theorem clr_out {Γ : List Sl} {j : Nat} : ∀ {vs : List Nat}, j ∉ vs → (clr Γ vs)[j]? = Γ[j]?
  | [], _ => rfl
  | v :: vs, h => by
    show ((clr Γ vs).set v .no)[j]? = _
    rw [List.getElem?_set_ne fun z => h (by rw [z]; exact .head _)]
    exact clr_out fun z => h (.tail _ z)
theorem clr_some {Γ : List Sl} {j : Nat} {s : Sl} {vs : List Nat} (h : (clr Γ vs)[j]? = some s) (n : s ≠ .no) : j ∉ vs ∧ Γ[j]? = some s := by
  by_cases z : j ∈ vs
  · exact absurd (clr_in z h) n
  · exact ⟨z, (clr_out z).symm.trans h⟩
theorem wipe_there {σ : L2.St} {j : Nat} : ∀ {vs : List Nat}, j ∈ vs → j < σ.length → (wipe σ vs)[j]? = some none
  | v :: vs, h, l => by
    show ((wipe σ vs).set v none)[j]? = _
    by_cases e : v = j
    · subst e
      exact List.getElem?_set_self (by rw [wipe_length]; exact l)
    · rw [List.getElem?_set_ne e]
      rcases List.mem_cons.mp h with z | z
      · exact absurd z.symm e
      · exact wipe_there z l
theorem wipe_eq {σ σ' : L2.St} {vs : List Nat} (hl : σ.length = σ'.length) (h : ∀ j, j ∉ vs → σ[j]? = σ'[j]?) : wipe σ vs = wipe σ' vs := by
  refine List.ext_getElem? fun j => ?_
  by_cases e : j ∈ vs
  · by_cases l : j < σ.length
    · rw [wipe_there e l, wipe_there e (hl ▸ l)]
    · rw [List.getElem?_eq_none (by rw [wipe_length]; omega), List.getElem?_eq_none (by rw [wipe_length]; omega)]
  · rw [wipe_out e, wipe_out e]
    exact h j e
theorem wipe_same {σ σ' : L2.St} {vs : List Nat} (h : wipe σ vs = wipe σ' vs) : σ.length = σ'.length ∧ ∀ j, j ∉ vs → σ[j]? = σ'[j]? := by
  refine ⟨by rw [← wipe_length σ vs, h, wipe_length], fun j e => ?_⟩
  rw [← wipe_out (σ := σ) e, h, wipe_out e]
section
variable {B : Bas} {Hs : Hp} {σ σ2 : L2.St} {H : Hp} {Γ : List Sl} {vs : List Nat}
theorem Sx.clr (S : Sx B Hs σ H Γ) (h : σ2.length = σ.length) (e : ∀ j, j ∉ vs → σ2[j]? = σ[j]?) : Sx B Hs σ2 H (Px.clr Γ vs) := by
  refine ⟨S.fr, S.gr, S.sub, by rw [h, clr_len]; exact S.len, fun i s hs => ?_, fun i j a ds b es h1 h2 n => ?_, S.tb⟩
  · by_cases z : i ∈ vs
    · rw [clr_in z hs]
      exact trivial
    · rw [e i z]
      exact S.sl i s ((clr_out z).symm.trans hs)
  · exact S.ap i j a ds b es (clr_some h1 fun z => nomatch z).2 (clr_some h2 fun z => nomatch z).2 n
/-- a thing beside the slots is changed -/
theorem Sx.beside (S : Sx B Hs σ H Γ) {D : Addr} {o : HO} {u0 : HO} (hu : H D = some u0) (nu : noTb u0 = true) (n : Hs D = none) (f : B.fr D = none) (al : Alone Γ D) : Sx B Hs σ (L2.upd H D o) Γ := by
  refine ⟨fun b u e => ?_, S.gr, fun b u e => ?_, S.len, fun i s h => (S.sl i s h).mono (Same.refl _) fun a ds e => ?_, S.ap, tabs_updT S.tb hu nu⟩
  · have : b ≠ D := fun z => by rw [z, f] at e; cases e
    exact (upd_ne this).trans (S.fr b u e)
  · have : b ≠ D := fun z => by rw [z, n] at e; cases e
    exact (upd_ne this).trans (S.sub b u e)
  · subst e
    obtain ⟨_, _, m, _⟩ := S.lst h
    exact ⟨m, upd_ne (al i a ds h)⟩
/-- what stands at D is held, too -/
theorem Sx.hold (S : Sx B Hs σ H Γ) {D : Addr} {u : HO} (hD : H D = some u) (n : Hs D = none) (f : B.fr D = none) (al : Alone Γ D) : Sx ⟨L2.upd B.fr D u, Hs, B.T⟩ Hs σ H Γ := by
  refine ⟨fun b o e => ?_, Grow.refl _ _, S.sub, S.len, fun i s h => ?_, S.ap, S.tb⟩
  · by_cases z : b = D
    · subst z
      have e : L2.upd B.fr b u b = some o := e
      rw [upd_same] at e
      rw [hD]
      exact e
    · have e : L2.upd B.fr D u b = some o := e
      rw [upd_ne z] at e
      exact S.fr b o e
  · have q := S.sl i s h
    cases s with
    | own a ds =>
      obtain ⟨q1, q2, q3⟩ := q
      exact ⟨q1, (upd_ne (al i a ds h)).trans q2, q3⟩
    | _ => exact q
theorem Sx.loose {F : Hp} {hs0 Hs0 : Hp} {T0 : List (Addr × Str)} {D : Addr} {u : HO} (S : Sx ⟨L2.upd F D u, Hs0, T0⟩ Hs σ H Γ) (g : Grow F hs0 Hs0) (f : F D = none) (n : Hs0 D = none) : Sx ⟨F, hs0, T0⟩ Hs σ H Γ ∧ H D = some u ∧ Hs D = none ∧ Alone Γ D := by
  have up : ∀ b, F b ≠ none → L2.upd F D u b ≠ none := fun b hb => by
    by_cases z : b = D
    · rw [z, upd_same]
      exact fun z => nomatch z
    · rw [upd_ne z]
      exact hb
  refine ⟨⟨fun b o e => S.fr b o ?_, g.trans (S.gr.mono up), S.sub, S.len, fun i s h => ?_, S.ap, S.tb⟩, S.fr D u upd_same, S.gr.off D n (by show L2.upd F D u D ≠ none; rw [upd_same]; exact fun z => nomatch z), fun i b es h z => ?_⟩
  · have : b ≠ D := fun z => by
      have e : F b = some o := e
      rw [z, f] at e
      cases e
    exact (upd_ne this).trans e
  · have q := S.sl i s h
    cases s with
    | own a ds =>
      obtain ⟨q1, q2, q3⟩ := q
      have q2 : L2.upd F D u a = none := q2
      have : a ≠ D := fun z => by rw [z, upd_same] at q2; cases q2
      exact ⟨q1, (upd_ne this).symm.trans q2, q3⟩
    | _ => exact q
  · obtain ⟨_, q2, _⟩ := S.lst h
    have q2 : L2.upd F D u b = none := q2
    rw [z, upd_same] at q2
    cases q2
end
/-- data are given to a comprehension's target -/
def GC (B : Bas) (X : Cx) (vs : List Nat) (t : Expr) (d : PyData) (Γ : List Sl) (φ : List Sl → Prop) : Prop := ∀ (Hs : Hp) (σ : L2.St) (H : Hp) (v : V) (Q : L2.St → Hp → Prop), Sx B Hs σ H Γ → Dv Hs v d → (∀ Γ' Hs' σ' H', φ Γ' → Same Hs Hs' → Sx B Hs' σ' H' Γ' → wipe σ' vs = wipe σ vs → Q σ' H') → tgW X t v σ H Q
def GCs (B : Bas) (X : Cx) (vs : List Nat) (ts : List Expr) (ds : List PyData) (Γ : List Sl) (φ : List Sl → Prop) : Prop := ∃ g, PGs X ts g ∧ ∀ (Hs : Hp) (σ : L2.St) (H : Hp) (us : List V) (Q : L2.St → Hp → Prop), Sx B Hs σ H Γ → DvAll Hs us ds → (∀ Γ' Hs' σ' H', φ Γ' → Same Hs Hs' → Sx B Hs' σ' H' Γ' → wipe σ' vs = wipe σ vs → Q σ' H') → g us σ H Q
/-- tests of a comprehension -/
@[irreducible] def tpW (X : Cx) (ifs : List Expr) : TT := fun σ H Q => ∀ (pins : List (Addr × Obj)) (s : Shared), Inv X pins σ H s → wpAny (model X.prog X.w) X.A (forIn ifs true fun c r => if r = true then do let ok ← isTrue c X.env (eval c X.env); pure (ForInStep.yield ok) else pure (ForInStep.yield r)) (TP X pins σ Q) X.xe s
theorem tpI {X : Cx} {ifs : List Expr} {σ : L2.St} {H : Hp} {Q : Bool → Hp → Prop} (h : ∀ (pins : List (Addr × Obj)) (s : Shared), Inv X pins σ H s → wpAny (model X.prog X.w) X.A (forIn ifs true fun c r => if r = true then do let ok ← isTrue c X.env (eval c X.env); pure (ForInStep.yield ok) else pure (ForInStep.yield r)) (TP X pins σ Q) X.xe s) : tpW X ifs σ H Q := by unfold tpW; exact h
theorem tpE {X : Cx} {ifs : List Expr} {σ : L2.St} {H : Hp} {Q : Bool → Hp → Prop} (h : tpW X ifs σ H Q) : ∀ (pins : List (Addr × Obj)) (s : Shared), Inv X pins σ H s → wpAny (model X.prog X.w) X.A (forIn ifs true fun c r => if r = true then do let ok ← isTrue c X.env (eval c X.env); pure (ForInStep.yield ok) else pure (ForInStep.yield r)) (TP X pins σ Q) X.xe s := by unfold tpW at h; exact h
theorem pts_of {X : Cx} {ifs : List Expr} {t : TT} (p : PTs X ifs t) {σ : L2.St} {H : Hp} {Q : Bool → Hp → Prop} (h : t σ H Q) : tpW X ifs σ H Q := tpI fun pins s I => p.run pins s σ H Q I h
def GP (B : Bas) (X : Cx) (ifs : List Expr) (Γ : List Sl) (φ : Bool → List Sl → Prop) : Prop := ∀ (Hs : Hp) (σ : L2.St) (H : Hp) (Q : Bool → Hp → Prop), Sx B Hs σ H Γ →
  (∀ b Γ' Hs' H', φ b Γ' → Same Hs Hs' → Sx B Hs' σ H' Γ' → Q b H') → tpW X ifs σ H Q
section
variable {B : Bas} {X : Cx} {Γ : List Sl} {pos : Pos} {k : Nat} {vs : List Nat}
theorem gp_nil {φ : Bool → List Sl → Prop} (h : φ true Γ) : GP B X [] Γ φ := fun Hs σ H Q S g => pts_of pts_nil (g true Γ Hs H h (Same.refl _) S)
theorem gp_one {t : Expr} {φ : Bool → List Sl → Prop} (h : GT B X t Γ φ) : GP B X [t] Γ φ := fun Hs σ H Q S g => pts_of (pts_one pt_W) (h Hs σ H Q S g)
theorem gc_name (nd : X.N.Nodup) (i : Nat) {x : Str} {d : PyData} {φ : List Sl → Prop} (hi : X.N[i]? = some x) (hx : Loc X.env.scope x) (hm : i ∈ vs) (h : i < Γ.length ∧ φ (Γ.set i (.d d))) (hf : X.fn x = true ∨ X.env.scope.names.lookup x = some .local := by first | exact .inl rfl | exact .inr rfl | assumption) : GC B X vs (.Name x pos) d Γ φ := fun Hs σ H v Q S q g =>
  pg_of (pg_name (i := i) nd hi hx hf) (g _ Hs _ H h.2 (Same.refl _) (S.putD h.1 q) (wipe_eq (List.length_set ..) fun j hj => List.getElem?_set_ne fun z => hj (by rw [← z]; exact hm)))
theorem gcs_nil {φ : List Sl → Prop} (h : φ Γ) : GCs B X vs [] [] Γ φ := ⟨gNil, pgs_nil, fun Hs σ H us Q S q g => ⟨dvs_nil q, g Γ Hs σ H h (Same.refl _) S rfl⟩⟩
theorem gcs_cons {t : Expr} {ts : List Expr} {d : PyData} {ds : List PyData} {φ : List Sl → Prop} (M : List Sl) (h : GC B X vs t d Γ (· = M)) (h2 : GCs B X vs ts ds M φ)
    (hs : (assignEach (t :: ts) X.env).map (·.2) = assign t X.env :: (assignEach ts X.env).map (·.2) := by rfl) : GCs B X vs (t :: ts) (d :: ds) Γ φ := by
  obtain ⟨u, q, h2⟩ := h2
  refine ⟨gCons (tgW X t) u, pgs_cons pg_W q hs, fun Hs σ H us Q S dv k => ?_⟩
  cases dv with
  | cons a r => exact ⟨_, _, rfl, h Hs σ H _ _ S a fun Γ1 Hs1 σ1 H1 e s S1 w1 => by
      subst e
      exact h2 Hs1 σ1 H1 _ Q S1 (r.mono s) fun Γ2 Hs2 σ2 H2 p2 s2 S2 w2 => k Γ2 Hs2 σ2 H2 p2 (s.trans s2) S2 (w2.trans w1)⟩
theorem gc_tup (calm : X.calm = true) {ts : List Expr} {n1 : Nat} {ds : List PyData} {φ : List Sl → Prop} (h : GCs B X vs ts ds Γ φ) {n : Nat} (hn : (assignEach ts X.env).length = n := by rfl) (hl : ds.length = n := by rfl) (hst : (assignEach ts X.env).findIdx? (·.1) = none := by rfl) : GC B X vs (.Tuple ts n1 pos) (.tuple ds) Γ φ := fun Hs σ H v Q S q k => by
  obtain ⟨g, p, h⟩ := h
  refine pg_of (pg_tup calm p hn hst) ?_
  cases q with
  | tup r a => exact ⟨_, _, rfl, rdT (rd_up S.sub r), a.len.trans hl, h Hs σ H _ Q S a k⟩
/-- the block's contexts -/
abbrev blkX (X : Cx) (scope : Scope) (s : Shared) (H : Hp) (C : Addr) (cl : List (Str × Addr)) (fp : List Addr) : Cx := X.blk s H scope (compEnvC scope cl C X.env) fp
/-- what holds in all of the block's contexts -/
def Blk (X : Cx) (scope : Scope) (φ : Cx → Prop) : Prop := ∀ (s : Shared) (H : Hp) (C : Addr) (cl : List (Str × Addr)) (fp : List Addr), φ (blkX X scope s H C cl fp)
def tgB (X : Cx) (scope : Scope) (t : Expr) : TG := fun v σ H Q => ∀ s0 H0 C cl fp, tgW (blkX X scope s0 H0 C cl fp) t v σ H Q
def tpB (X : Cx) (scope : Scope) (ifs : List Expr) : TT := fun σ H Q => ∀ s0 H0 C cl fp, tpW (blkX X scope s0 H0 C cl fp) ifs σ H Q
def teB (X : Cx) (scope : Scope) (e : Expr) : TE := fun σ H Q => ∀ s0 H0 C cl fp, teW (blkX X scope s0 H0 C cl fp) e σ H Q
/-- [elt for t in iter if ..]; I: the turn, what is made so far -/
theorem gf_lc {elt t iter : Expr} {ifs : List Expr} {scope : Scope} {own : List (Str × Nat)} {φ : List PyData → List Sl → Prop} (calm : X.calm = true) (nd : X.N.Nodup) (ok : BlkOk X.N X.env.scope scope own)
    (h : GI B X t iter Γ fun n f keep Γ1 => ∃ I : Nat → List PyData → List Sl → Prop, I 0 [] (clr Γ1 (own.map (·.2))) ∧ (∀ i acc Γ, i ≤ n → I i acc Γ → keep Γ) ∧
      (∀ i acc Γ, i < n → I i acc Γ → ∀ B', Blk X scope fun Y => GC B' Y (own.map (·.2)) t (f i) (clr Γ (own.map (·.2))) fun Γ2 => Blk X scope fun Y => GP B' Y ifs Γ2 fun b Γ3 => if b = true then Blk X scope fun Y => GE B' Y elt Γ3 fun d Γ4 => acc.length < sizeLine ∧ I (i + 1) (acc ++ [d]) (clr Γ4 (own.map (·.2))) else I (i + 1) acc (clr Γ3 (own.map (·.2)))) ∧
      ∀ acc Γ, I n acc Γ → φ acc Γ)
    (hs : ∀ x, foldedSetIterable iter X.env x = pure x := by intro _; rfl) : GF B X (.ListComp elt [⟨t, iter, ifs, 0⟩] scope pos) Γ φ := fun Hs σ H Q S g =>
  pe_of (pe_lc (g := tgB X scope t) (tt := tpB X scope ifs) (te := teB X scope elt)
    calm nd pi_W ok (fun s0 H0 C cl fp => ⟨fun pins s _ _ _ u _ I r h => tgE (h s0 H0 C cl fp) pins s u I r⟩) (fun s0 H0 C cl fp => ⟨fun pins s _ _ _ I h => tpE (h s0 H0 C cl fp) pins s I⟩) (fun s0 H0 C cl fp => ⟨fun pins s _ _ _ I h => teE (h s0 H0 C cl fp) pins s I⟩) hs)
    (h Hs σ H _ S fun n f keep Γ1 J Hs1 H1 ⟨I, i0, ik, step, done⟩ s S1 ⟨G, Y, w, wg, wy⟩ D hD => by
      obtain ⟨fD, nD, al⟩ := alone_new S1 hD
      refine lc_it w (fun i H' => ∃ acc vs Γ' Hs', I i acc Γ' ∧ Same Hs1 Hs' ∧ Sx B Hs' σ H' Γ' ∧ H' D = some (.lst vs) ∧ DvAll Hs' vs acc ∧ Hs' D = none ∧ Alone Γ' D) ⟨[], [], _, Hs1, i0, Same.refl _, (S1.aside hD).clr rfl (fun _ _ => rfl), upd_same, .nil, nD, fun i b es e => al i b es (clr_some e fun z => nomatch z).2⟩ ?_ ?_ ?_
      · rintro i H' hi ⟨acc, vs, Γ', Hs', p, s', S', _⟩
        exact wg B Hs' σ H' Γ' (ik i acc Γ' hi p) s' S'
      · rintro i x H' H'' hi ⟨acc, vs, Γ', Hs', p, s', S', hD', dv, nD', al'⟩ y
        have SB := S'.hold hD' nD' fD al'
        have g0 : Grow B.fr B.hs Hs' := S'.gr
        obtain ⟨Hs2, s2, S2, dx⟩ := wy _ i Hs' σ H' Γ' x H'' hi (ik i acc Γ' (Nat.le_of_lt hi) p) s' SB y
        have body := step i acc Γ' hi p ⟨upd B.fr D (.lst vs), Hs', B.T⟩
        have S2w : Sx ⟨upd B.fr D (.lst vs), Hs', B.T⟩ Hs2 (wipe σ (own.map (·.2))) H'' (clr Γ' (own.map (·.2))) := S2.clr (wipe_length _ _) fun j hj => wipe_out hj
        have back : ∀ {Γ6 : List Sl} {Hs6 : Hp} {σ6 : L2.St} {H6 : Hp}, wipe σ6 (own.map (·.2)) = wipe σ (own.map (·.2)) → Sx ⟨upd B.fr D (.lst vs), Hs', B.T⟩ Hs6 σ6 H6 Γ6 → Sx B Hs6 σ H6 (clr Γ6 (own.map (·.2))) ∧ H6 D = some (.lst vs) ∧ Hs6 D = none ∧ Alone (clr Γ6 (own.map (·.2))) D := fun {Γ6 Hs6 σ6 H6} w6 S6 => by
          obtain ⟨l, e⟩ := wipe_same w6
          exact (S6.clr (vs := own.map (·.2)) l.symm fun j hj => (e j hj).symm).loose g0 fD nD'
        intro s0 H0 C cl fp
        refine body s0 H0 C cl fp Hs2 (wipe σ (own.map (·.2))) H'' x _ S2w dx fun Γ2 Hs3 σ3 H3 p3 s3 S3 w3 => ?_
        have w3 : wipe σ3 (own.map (·.2)) = wipe σ (own.map (·.2)) := w3.trans (wipe_eq (wipe_length _ _) fun j hj => wipe_out hj)
        refine ⟨w3, fun s0 H0 C cl fp => p3 s0 H0 C cl fp Hs3 σ3 H3 _ S3 fun b Γ3 Hs4 H4 p4 s4 S4 => ?_⟩
        cases b with
        | false =>
          obtain ⟨Sb, hb, nb, ab⟩ := back w3 S4
          have sAll : Same Hs' Hs4 := s2.trans (s3.trans s4)
          exact iteF ⟨acc, vs, _, Hs4, p4, s'.trans sAll, Sb, hb, dv.mono sAll, nb, ab⟩
        | true =>
          have p4 : Blk X scope fun Y => GE _ Y elt Γ3 fun d Γ4 => acc.length < sizeLine ∧ I (i + 1) (acc ++ [d]) (clr Γ4 (own.map (·.2))) := p4
          refine iteT fun s0 H0 C cl fp => p4 s0 H0 C cl fp Hs4 σ3 H4 _ S4 fun d Γ5 v5 Hs5 H5 ⟨hl, p5⟩ s5 S5 q5 => ?_
          obtain ⟨Sb, hb, nb, ab⟩ := back w3 S5
          have sAll : Same Hs' Hs5 := s2.trans (s3.trans (s4.trans s5))
          exact ⟨vs, hb, by rw [dv.len]; exact hl, acc ++ [d], vs ++ [v5], _, Hs5, p5, s'.trans sAll, Sb.beside hb rfl nb fD ab, upd_same, dvs_snoc (dv.mono sAll) q5, nb, ab⟩
      · rintro H' ⟨acc, vs, Γ', Hs', p, s', S', hD', dv, nD', al'⟩
        exact g acc Γ' D vs Hs' H' (done acc Γ' p) (s.trans s') S' fD nD' al' hD' dv)
end
end Px
/-! Defs: what they promise of data, how they are called; errors of one's own. -/
namespace Px
open PySem PySem.Spec PyProof.Rows L2 Tc
inductive Out where
  | ok (d : PyData)
  | up (C : Addr) (d : PyData)
def Out.to (o : Out) (a : PyData → Prop) (b : Addr → PyData → Prop) : Prop := match o with
  | .ok d => a d
  | .up C d => b C d
/-- it is raised, v kept -/
def upE (C : Addr) (v : V) (H : Hp) (E : XK) : Prop := ∀ dd, H dd = none → E (.ref C) (some dd) (upd H dd (.xd [("given", v)]))
/-- what a def of data gives -/
def spF (n : Nat) (pre : List PyData → Prop) (f : List PyData → Out) : Sp := fun vs H Q E => ∃ Hs ds, Same Hs H ∧ DvAll Hs vs ds ∧ ds.length = n ∧ pre ds ∧
  ∀ v Hs' H', Same H H' → Same Hs' H' → Grow H Hs Hs' → (f ds).to (fun d => Dv Hs' v d → Q v H') (fun C d => Dv Hs' v d → upE C v H' E)
/-- .. of a list that it changes, and of data; R tells what may come -/
def spP (n : Nat) (pre : List PyData → List PyData → Prop) (R : List PyData → List PyData → Out → List PyData → Prop) : Sp := fun vs H Q E => ∃ Hs a pv ws ps ds, vs = .ref a :: ws ∧ Same Hs H ∧ Hs a = none ∧ H a = some (.lst pv) ∧ DvAll Hs pv ps ∧ DvAll Hs ws ds ∧ ds.length = n ∧ pre ps ds ∧
  ∀ o ps', R ps ds o ps' → ∀ v Hs' H' pv', (∀ b u, H b = some u → b ≠ a → H' b = some u) → Same Hs' H' → Grow H Hs Hs' → H' a = some (.lst pv') → DvAll Hs' pv' ps' → o.to (fun d => Dv Hs' v d → Q v H') (fun C d => Dv Hs' v d → upE C v H' E)
/-- the slots at a def's start -/
def slots0 (N : List Str) (Γ : List Sl) : List Sl := Γ ++ List.replicate (N.length - Γ.length) .no
theorem start_get {N : List Str} {vs : List V} {i : Nat} {v : V} (h : vs[i]? = some v) : (L2.start N vs)[i]? = some (some v) := by
  show (vs.map some ++ _)[i]? = _
  rw [List.getElem?_append_left (by rw [List.length_map]; exact (List.getElem?_eq_some_iff.mp h).1), List.getElem?_map, h] <;> rfl
theorem slots_get {N : List Str} {Γ : List Sl} {i : Nat} {s : Sl} (h : (slots0 N Γ)[i]? = some s) : s = .no ∨ Γ[i]? = some s := by
  unfold slots0 at h
  by_cases l : i < Γ.length
  · rw [List.getElem?_append_left l] at h
    exact .inr h
  · rw [List.getElem?_append_right (by omega), List.getElem?_replicate] at h
    split at h
    · exact .inl (Option.some.inj h).symm
    · cases h
theorem map_get {ds : List PyData} {i : Nat} {s : Sl} (h : (ds.map Sl.d)[i]? = some s) : ∃ d, ds[i]? = some d ∧ s = .d d := by
  rw [List.getElem?_map] at h
  cases q : ds[i]? with
  | none => rw [q] at h; cases h
  | some d => rw [q] at h; exact ⟨d, rfl, (Option.some.inj h).symm⟩
section
variable {P : Program} {w : World} {K : PySem.W.Frag} {mg : Str → Option Value} {base : Heap}
/-- a def of data, by its body -/
theorem fn_data {x qual : Str} {st : Stmt} {f : Addr} {fd : FuncData} {N ps : List Str} {k : Nat} (F : Fun K x qual st f fd) (S : FnScope N ps (defScope st)) (sm : ∃ o, K.lookup sysModules = some o) (hl : ps.length ≤ N.length) (pre : List PyData → Prop) (g : List PyData → Out)
    (body : ∀ (cdv : Value) (A : Around) (outer : List Env) (s : Shared) (H : Hp) (E : XK) (B : Bas) (ds : List PyData), ds.length = ps.length → pre ds →
      Bod (cxOf (L2.CX P w) P w K mg base N qual (defScope st) f cdv A outer s H E) k → Exc B (cxOf (L2.CX P w) P w K mg base N qual (defScope st) f cdv A outer s H E) (fun C d _ => g ds = .up C d) →
      Gs B (cxOf (L2.CX P w) P w K mg base N qual (defScope st) f cdv A outer s H E) (defBody st) (slots0 N (ds.map .d)) { nx := fun _ => g ds = .ok .none, rt := fun d _ => g ds = .ok d }) :
    FnG P w K mg base (L2.CX P w) (k + 1) f fd ps (spF ps.length pre g) := by
  refine Fun.okG F S (fun vs H Q E h => ?_) (fun cdv A outer s H vs Q E hr hgd h => ?_)
  · obtain ⟨Hs, ds, _, d, l, _⟩ := h
    exact d.len.trans l
  · obtain ⟨Hs, ds, sub, dv, l, hp, q⟩ := h
    have tk := takes_of (X := cxOf (L2.CX P w) P w K mg base N qual (defScope st) f cdv A outer s H E) (E := E) rfl rfl rfl rfl
    have S0 : Sx ⟨H, Hs, []⟩ Hs (L2.start N vs) H (slots0 N (ds.map .d)) := by
      refine ⟨Same.refl _, Grow.refl _ _, sub, ?_, fun i t h => ?_, fun i j a es b fs h1 h2 n => ?_, tabs_nil⟩
      · show (vs.map some ++ List.replicate _ none).length = (ds.map Sl.d ++ _).length
        simp only [List.length_append, List.length_map, List.length_replicate, dv.len]
      · rcases slots_get h with rfl | h
        · exact trivial
        · obtain ⟨d, e, rfl⟩ := map_get h
          obtain ⟨v, ev, q⟩ := dvs_get dv e
          exact ⟨v, start_get ev, q⟩
      · rcases slots_get h1 with z | z
        · cases z
        · obtain ⟨d, _, z⟩ := map_get z
          cases z
    refine ⟨_, pss_W, body cdv A outer s H E ⟨H, Hs, []⟩ ds l hp ⟨⟨hr, hgd, sm⟩, S.nd, rfl, PassesOwn.leaving⟩ ⟨_, tk, fun C d Γ v Hs' σ' H' e T dvv dd hdd => ?_⟩ _ Hs _ H ⟨fun Γ Hs' σ' H' e _ T => ?_, fun d Γ v Hs' σ' H' e _ T dvv => ?_, fun _ _ _ _ z => z.elim, fun _ _ _ _ z => z.elim⟩ S0⟩
    · have z := q v Hs' H' T.fr T.sub T.gr
      rw [e] at z
      exact z dvv dd hdd
    · have z := q .non Hs' H' T.fr T.sub T.gr
      have e : g ds = .ok .none := e
      rw [e] at z
      exact z .non
    · have z := q v Hs' H' T.fr T.sub T.gr
      have e : g ds = .ok d := e
      rw [e] at z
      exact z dvv
/-- a def of a list that it changes -/
theorem fn_pail {x qual : Str} {st : Stmt} {f : Addr} {fd : FuncData} {N ps : List Str} {k n : Nat} (F : Fun K x qual st f fd) (S : FnScope N ps (defScope st)) (sm : ∃ o, K.lookup sysModules = some o) (hn : ps.length = n + 1) (pre : List PyData → List PyData → Prop) (R : List PyData → List PyData → Out → List PyData → Prop)
    (body : ∀ (cdv : Value) (A : Around) (outer : List Env) (s : Shared) (H : Hp) (E : XK) (B : Bas) (a : Addr) (ms ds : List PyData), ds.length = n → pre ms ds →
      Bod (cxOf (L2.CX P w) P w K mg base N qual (defScope st) f cdv A outer s H E) k → Exc B (cxOf (L2.CX P w) P w K mg base N qual (defScope st) f cdv A outer s H E) (fun C d Γ => ∃ ms', Γ[0]? = some (.own a ms') ∧ R ms ds (.up C d) ms') →
      Gs B (cxOf (L2.CX P w) P w K mg base N qual (defScope st) f cdv A outer s H E) (defBody st) (slots0 N (.own a ms :: ds.map .d)) { nx := fun Γ => ∃ ms', Γ[0]? = some (.own a ms') ∧ R ms ds (.ok .none) ms', rt := fun d Γ => ∃ ms', Γ[0]? = some (.own a ms') ∧ R ms ds (.ok d) ms' }) :
    FnG P w K mg base (L2.CX P w) (k + 1) f fd ps (spP n pre R) := by
  refine Fun.okG F S (fun vs H Q E h => ?_) (fun cdv A outer s H vs Q E hr hgd h => ?_)
  · obtain ⟨Hs, a, pv, ws, ms, ds, rfl, _, _, _, _, d, l, _⟩ := h
    rw [List.length_cons, d.len, l, hn]
  · obtain ⟨Hs, a, pv, ws, ms, ds, rfl, sub, na, ha, dp, dv, l, hp, q⟩ := h
    have tk := takes_of (X := cxOf (L2.CX P w) P w K mg base N qual (defScope st) f cdv A outer s H E) (E := E) rfl rfl rfl rfl
    -- all but the list
    generalize hG : (fun b => if b = a then none else H b : Hp) = G
    have Ga : G a = none := by rw [← hG]; exact if_pos rfl
    have Gb : ∀ b, b ≠ a → G b = H b := fun b hb => by rw [← hG]; exact if_neg hb
    have GH : Same G H := fun b o e => by
      by_cases z : b = a
      · rw [z, Ga] at e; cases e
      · rw [← Gb b z]; exact e
    have S0 : Sx ⟨G, Hs, []⟩ Hs (L2.start N (.ref a :: ws)) H (slots0 N (.own a ms :: ds.map .d)) := by
      refine ⟨GH, Grow.refl _ _, sub, ?_, fun i t h => ?_, fun i j b es c fs h1 h2 n => ?_, tabs_nil⟩
      · show ((V.ref a :: ws).map some ++ List.replicate _ none).length = ((Sl.own a ms :: ds.map Sl.d) ++ _).length
        simp only [List.length_append, List.length_map, List.length_replicate, List.length_cons, dv.len]
      · rcases slots_get h with rfl | h
        · exact trivial
        · cases i with
          | zero =>
            have e : t = .own a ms := (Option.some.inj h).symm
            subst e
            exact ⟨start_get rfl, Ga, na, pv, ha, dp⟩
          | succ i =>
            obtain ⟨d, e, rfl⟩ := map_get (show (ds.map Sl.d)[i]? = some t from h)
            obtain ⟨v, ev, q⟩ := dvs_get dv e
            exact ⟨v, start_get (show (V.ref a :: ws)[i + 1]? = some v from ev), q⟩
      · rcases slots_get h1 with z | z
        · cases z
        · cases i with
          | succ i =>
            obtain ⟨d, _, z⟩ := map_get (show (ds.map Sl.d)[i]? = _ from z)
            cases z
          | zero =>
            rcases slots_get h2 with z2 | z2
            · cases z2
            · cases j with
              | zero => exact absurd rfl n
              | succ j =>
                obtain ⟨d, _, z⟩ := map_get (show (ds.map Sl.d)[j]? = _ from z2)
                cases z
    have fin : ∀ {Γ : List Sl} {Hs' : Hp} {σ' : L2.St} {H' : Hp} {ms' : List PyData}, Sx ⟨G, Hs, []⟩ Hs' σ' H' Γ → Γ[0]? = some (.own a ms') → (∀ b u, H b = some u → b ≠ a → H' b = some u) ∧ Grow H Hs Hs' ∧ ∃ pv', H' a = some (.lst pv') ∧ DvAll Hs' pv' ms' := fun {Γ Hs' σ' H' ms'} T e => by
      obtain ⟨_, _, n', pv', h', d'⟩ := T.lst e
      refine ⟨fun b u eb nb => T.fr b u ((Gb b nb).trans eb), ⟨T.gr.same, fun b nb fb => ?_⟩, pv', h', d'⟩
      by_cases z : b = a
      · rw [z]
        exact n'
      · exact T.gr.off b nb (by show G b ≠ none; rw [Gb b z]; exact fb)
    refine ⟨_, pss_W, body cdv A outer s H E ⟨G, Hs, []⟩ a ms ds l hp ⟨⟨hr, hgd, sm⟩, S.nd, rfl, PassesOwn.leaving⟩ ⟨_, tk, fun C d Γ v Hs' σ' H' e T dvv dd hdd => ?_⟩ _ Hs _ H ⟨fun Γ Hs' σ' H' e _ T => ?_, fun d Γ v Hs' σ' H' e _ T dvv => ?_, fun _ _ _ _ z => z.elim, fun _ _ _ _ z => z.elim⟩ S0⟩
    · obtain ⟨ms', e0, r⟩ := e
      obtain ⟨k1, k2, pv', h', d'⟩ := fin T e0
      exact q (.up C d) ms' r v Hs' H' pv' k1 T.sub k2 h' d' dvv dd hdd
    · obtain ⟨ms', e0, r⟩ := e
      obtain ⟨k1, k2, pv', h', d'⟩ := fin T e0
      exact q (.ok .none) ms' r .non Hs' H' pv' k1 T.sub k2 h' d' .non
    · obtain ⟨ms', e0, r⟩ := e
      obtain ⟨k1, k2, pv', h', d'⟩ := fin T e0
      exact q (.ok d) ms' r v Hs' H' pv' k1 T.sub k2 h' d' dvv
end
/-! ### calls -/
section
variable {B : Bas} {X : Cx} {Γ : List Sl} {pos : Pos} {k j n : Nat} {E : DE}
theorem run_fnGS {CX : CXT} {f : Addr} {fd : FuncData} {ps : List Str} {sp : Sp} {pins : List (Addr × Obj)} {σ : L2.St} {H : Hp} {s : Shared} {Q : VK} {E : XK}
    {us : List Value} {vs : List V} (F : FnG X.prog X.w X.K X.mg X.base CX k f fd ps sp)
    (hr : Room k X.A) (hgd : X.A.guards = some []) (hb : Binds X.K fd ps [])
    (hx : PassesAt CX X σ E) (I : Inv X pins σ H s) (r : Vals vs us) (h : sp vs H Q E) :
    wpAny (model X.prog X.w) X.A (call (.ref f) us) (EP X pins σ Q) X.xe s := by
  have hl : us.length = ps.length := r.length ▸ F.len _ _ _ _ h
  have b := hb s us I.kIn (by rw [List.append_nil]; exact hl)
  rw [List.append_nil] at b
  have main := F.run X.A X.stack s H ⟨us, []⟩ us vs Q E hr hgd I.env0 b r h
  refine wpAny_call (codeAny_mono main ?_)
  intro res s' hq
  cases res with
  | error er => exact hx pins H s er s' I hq
  | ok fl =>
    cases fl with
    | ret u => exact I.after hq
    | next | brk | cont => exact False.elim hq
/-- a call by the def's name, its arguments some values -/
theorem call_W {x : Str} {p : Pos} {e : Expr} {es : List Expr} {ps : List Str} {sp : Sp} {W : WX} (F : Call X.prog X.w X.K X.mg X.base (L2.CX X.prog X.w) j x ps sp) (c : Cxt X k) (hj : j ≤ k) (hg : Gl X x) (tk : Takes X W)
    (hdb : (x == ("__debug__" : Str)) = false) (he : starEach (e :: es) X.env = (false, eval e X.env) :: starEach es X.env) (hpl : (backTo pos (starEach es X.env)).any (·.1) = false)
    {σ : L2.St} {H : Hp} {Q : VK} (h : taW X (e :: es) σ H fun vs H1 => sp vs H1 Q fun cl d H' => W cl d σ H') : teW X (.Call (.Name x p) (e :: es) [] pos) σ H Q := teI fun pins s I => by
  obtain ⟨f, fd, G, hm, hk, hb⟩ := F.ex
  refine wpAny_Call_Name_kw (ld_glob I hg hm ?_ hdb)
  refine PySem.W.callWith_K (h₀ := X.base) I.ok.mod.kin hk (thn (taE h pos pins s I) ?_) he hpl
  rintro us s1 ⟨vs, H1, I1, r, q⟩
  exact ⟨I1.kIn, run_fnGS G (c.room.mono hj) c.gd hb (fun pins H s e s' I c => tk e s' (XE.of_call I (fun _ _ _ h => h) c)) I1 r q⟩
/-- a def of data is called -/
theorem ge_call {x : Str} {p : Pos} {e : Expr} {es : List Expr} {ps : List Str} {pre : List PyData → Prop} {f : List PyData → Out} {ψ : Addr → PyData → List Sl → Prop} {φ : PyData → List Sl → Prop} (F : Call X.prog X.w X.K X.mg X.base (L2.CX X.prog X.w) j x ps (spF n pre f)) (c : Cxt X k) (hj : j ≤ k) (hg : Gl X x) (ex : Exc B X ψ)
    (h : GA B X (e :: es) Γ fun ds Γ1 => ds.length = n ∧ pre ds ∧ (f ds).to (fun d => φ d Γ1) (fun C d => ψ C d Γ1)) (hdb : (x == ("__debug__" : Str)) = false := by decide)
    (he : starEach (e :: es) X.env = (false, eval e X.env) :: starEach es X.env := by rfl) (hpl : (backTo pos (starEach es X.env)).any (·.1) = false := by rfl) : GE B X (.Call (.Name x p) (e :: es) [] pos) Γ φ := fun Hs σ H Q S g => by
  obtain ⟨W, tk, hW⟩ := ex
  refine call_W F c hj hg tk hdb he hpl (h Hs σ H _ S fun ds Γ1 vs Hs1 H1 ⟨l, hp, q⟩ s1 S1 dv => ⟨Hs1, ds, S1.sub, dv, l, hp, fun v Hs2 H2 k1 k2 k3 => ?_⟩)
  obtain ⟨s2, S2⟩ := S1.step k3 k1 k2
  cases e : f ds with
  | ok d =>
    rw [e] at q
    exact fun dd => g d Γ1 v Hs2 H2 q (s1.trans s2) S2 dd
  | up C d =>
    rw [e] at q
    exact fun dvv dd hdd => hW C d Γ1 v Hs2 σ H2 q S2 dvv dd hdd
/-- a def of a list that it changes is called: the list stands in the i-th slot -/
theorem ge_pail (i : Nat) {x y : Str} {p py : Pos} {es : List Expr} {ps : List Str} {a : Addr} {ms0 : List PyData} {pre : List PyData → List PyData → Prop} {R : List PyData → List PyData → Out → List PyData → Prop} {ψ : Addr → PyData → List Sl → Prop} {φ : PyData → List Sl → Prop} (F : Call X.prog X.w X.K X.mg X.base (L2.CX X.prog X.w) j x ps (spP n pre R)) (c : Cxt X k) (hj : j ≤ k) (hg : Gl X x) (ex : Exc B X ψ)
    (hN : X.N[i]? = some y) (hv : Vis X.env.scope y) (hΓ : Γ[i]? = some (.own a ms0))
    (h : GA B X es Γ fun ds Γ1 => ∃ ms, Γ1[i]? = some (.own a ms) ∧ ds.length = n ∧ pre ms ds ∧ ∀ o ms', R ms ds o ms' → o.to (fun d => φ d (Γ1.set i (.own a ms'))) (fun C d => ψ C d (Γ1.set i (.own a ms')))) (hdb : (x == ("__debug__" : Str)) = false := by decide)
    (hd : (y == ("__debug__" : Str)) = false := by decide) (hcd : (y == ("__classdict__" : Str)) = false := by decide)
    (he : starEach (.Name y py :: es) X.env = (false, eval (.Name y py) X.env) :: starEach es X.env := by rfl) (hpl : (backTo pos (starEach es X.env)).any (·.1) = false := by rfl) : GE B X (.Call (.Name x p) (.Name y py :: es) [] pos) Γ φ := fun Hs σ H Q S g => by
  obtain ⟨W, tk, hW⟩ := ex
  obtain ⟨e0, _⟩ := S.lst hΓ
  refine call_W F c hj hg tk hdb he hpl (pa_of (pa_cons (pe_var hN hv hd hcd) pa_W he) ⟨_, e0, h Hs σ H _ S fun ds Γ1 vs Hs1 H1 ⟨ms, g1, l, hp, q⟩ s1 S1 dv => ?_⟩)
  obtain ⟨_, f1, n1, pv, h1, d1⟩ := S1.lst g1
  refine ⟨Hs1, a, pv, vs, ms, ds, rfl, S1.sub, n1, h1, d1, dv, l, hp, fun o ms' r v Hs2 H2 pv' k1 k2 k3 h2 d2 => ?_⟩
  have q := q o ms' r
  have kk : ∀ b, B.fr b ≠ none → H1 b ≠ none := fun b hb => by
    cases z : B.fr b with
    | none => exact absurd z hb
    | some u => rw [S1.fr b u z]; exact fun z => nomatch z
  have S2 : Sx B Hs2 σ H2 (Γ1.set i (.own a ms')) := by
    refine ⟨fun b u e => k1 b u (S1.fr b u e) (fun z => by rw [z, f1] at e; cases e), S1.gr.trans (k3.mono kk), k2, by rw [List.length_set]; exact S1.len, fun j' t ej => ?_, fun j' l' b fs c' gs e1 e2 ne => ?_, tabs_pail S1.tb h1 k1 k3⟩
    · rcases get_set ej with ⟨rfl, rfl⟩ | ⟨nj, ej⟩
      · exact ⟨(S1.lst g1).1, f1, k3.off a n1 (by rw [h1]; exact fun z => nomatch z), pv', h2, d2⟩
      · refine (S1.sl j' t ej).mono k3.same fun b fs z => ?_
        subst z
        obtain ⟨_, _, nb, vb, hb, _⟩ := S1.lst ej
        exact ⟨k3.off b nb (by rw [hb]; exact fun z => nomatch z), (k1 b _ hb (S1.ap j' i b fs a ms ej g1 nj)).trans hb.symm⟩
    · rcases get_set e1 with ⟨rfl, z⟩ | ⟨m1, d1⟩
      · cases z
        rcases get_set e2 with ⟨rfl, z⟩ | ⟨m2, d2⟩
        · exact absurd rfl ne
        · exact (S1.ap l' j' c' gs a ms d2 g1 m2).symm
      · rcases get_set e2 with ⟨rfl, z⟩ | ⟨m2, d2⟩
        · cases z
          exact S1.ap j' l' b fs a ms d1 g1 m1
        · exact S1.ap j' l' b fs c' gs d1 d2 ne
  cases o with
  | ok d => exact fun dd => g d _ v Hs2 H2 q (s1.trans k3.same) S2 dd
  | up C d => exact fun dvv dd hdd => hW C d _ v Hs2 σ H2 q S2 dvv dd hdd
/-- raise X(e) -/
theorem g1_raise {x : Str} {p : Pos} {e : Expr} {C : Addr} {ψ : Addr → PyData → List Sl → Prop} {pos' : Pos} (calm : X.calm = true) (c : Cxt X k) (N : NewAble X.K X.mg x "given" C) (hE : PySem.W.subIn X.K (.ref C) (.type "BaseException") = some true) (hT : PySem.W.typeIn X.K (.ref C) = some (.type "type")) (hg : Gl X x) (ex : Exc B X ψ)
    (h : GE B X e Γ fun d Γ1 => ψ C d Γ1) (hs : starEach [e] X.env = (false, eval e X.env) :: starEach [] X.env := by rfl) (hdb : (x == ("__debug__" : Str)) = false := by decide) : G1 B X (.Raise (some (.Call (.Name x p) [e] [] pos')) none pos) Γ E := fun D Hs σ H R S => by
  obtain ⟨W, tk, hW⟩ := ex
  exact ps_of (ps_raise calm tk (pmk_newX N hE hT c.room hg pe_W hs hdb)) (h Hs σ H _ S fun d Γ1 v Hs1 H1 q s S1 dv dd hdd => hW C d Γ1 v Hs1 σ H1 q S1 dv dd hdd)
end
end Px
/-! zip of a list and a tuple, either way round. -/
namespace Tz
open PySem PySem.Spec PyProof.Rows L2
/-- a list (k), else a tuple; its iterator -/
def Seq2 (k : Bool) (h : Heap) (a : Addr) (xs : Array Value) : Prop := match k with
  | true => h.IsList a xs
  | false => h.IsTuple a xs
def Run2 (k : Bool) (h : Heap) (it a : Addr) (i : Nat) : Prop := match k with
  | true => h.IsListIter it a i
  | false => h.IsTupleIter it a i
theorem Seq2.but {k : Bool} {h h' : Heap} {a b : Addr} {xs : Array Value} (q : Seq2 k h a xs) (s : Heap.ExtBut b h h') (n : a ≠ b) : Seq2 k h' a xs := by
  cases k with
  | true => exact Heap.IsList.extBut q s n
  | false => exact Heap.IsTuple.extBut q s n
theorem Run2.but {k : Bool} {h h' : Heap} {it a b : Addr} {i : Nat} (q : Run2 k h it a i) (s : Heap.ExtBut b h h') (n : it ≠ b) : Run2 k h' it a i := by
  cases k with
  | true => exact Heap.IsListIter.extBut q s n
  | false => exact Heap.IsTupleIter.extBut q s n
theorem Run2.on {k : Bool} {h h' : Heap} {it a : Addr} {i : Nat} (q : Run2 k h it a i) (s : ∀ o, h.get? it = some o → h'.get? it = some o) : Run2 k h' it a i := by
  cases k with
  | true => exact Heap.IsListIter.at q s
  | false => exact Heap.IsTupleIter.at q s
theorem Run2.obj {k : Bool} {h : Heap} {it a : Addr} {i : Nat} (q : Run2 k h it a i) : ∃ o vs, h.get? it = some o ∧ o.data = .fields vs := by
  cases k with
  | true =>
    obtain ⟨o, e, _, d⟩ := q
    exact ⟨o, _, e, d⟩
  | false =>
    obtain ⟨o, e, _, d⟩ := q
    exact ⟨o, _, e, d⟩
theorem Run2.lt {k : Bool} {h : Heap} {it a : Addr} {i : Nat} (q : Run2 k h it a i) : it < h.objs.size := by
  obtain ⟨o, _, e, _⟩ := q.obj
  exact Heap.lt_size e
section
variable {prog : Program} {w : World} {A : Around} {E : Value → Shared → Prop} {s : Shared} {k kk : Bool}
theorem step_one {it a : Addr} {i : Nat} {xs : Array Value} {x : Value} {Q : Value → Shared → Prop} (r : Run2 k s.heap it a i) (q : Seq2 k s.heap a xs) (e : xs[i]? = some x)
    (g : ∀ h', Run2 k h' it a (i + 1) → Heap.SameBut it s.heap h' → Q x { s with heap := h' }) : wpAny (model prog w) A (Builtin.SmallTypes.nextOf (.ref it)) Q E s := by
  cases k with
  | true => exact wpAny_nextOf_list_item r q e g
  | false => exact RZ.nextOf_tuple_item r q e g
theorem step_end {it a : Addr} {i : Nat} {xs : Array Value} {Q : Value → Shared → Prop} (hh : A.handled = none) (r : Run2 k s.heap it a i) (q : Seq2 k s.heap a xs) (e : xs[i]? = none)
    (g : ∀ h' x, Heap.ExtBut it s.heap h' → (∃ o, h'.get? x = some o ∧ o.cls = .type "StopIteration") → E (.ref x) { s with heap := h' }) : wpAny (model prog w) A (Builtin.SmallTypes.nextOf (.ref it)) Q E s := by
  cases k with
  | true => exact wpAny_nextOf_list_end hh r q e g
  | false => exact RZ.nextOf_tuple_end hh r q e g
/-- the zip's own things: its object, the pair of its iterators, its own pair -/
structure Own3 (h : Heap) (z ti tp : Addr) (f : Value) (i1 i2 : Addr) (a b : Value) : Prop where
  zip : IsZip h z ti tp f
  its : IsPair h ti (.ref i1) (.ref i2)
  pr : IsPair h tp a b
theorem zip_item {z ti tp i1 i2 l1 l2 : Addr} {j : Nat} {xs ys : Array Value} {x y a b : Value} {Q : Value → Shared → Prop} (P : ZipApart z ti tp i1 i2 l1 l2) (O : Own3 s.heap z ti tp .none i1 i2 a b)
    (r1 : Run2 k s.heap i1 l1 j) (r2 : Run2 kk s.heap i2 l2 j) (q1 : Seq2 k s.heap l1 xs) (q2 : Seq2 kk s.heap l2 ys) (ex : xs[j]? = some x) (ey : ys[j]? = some y)
    (g : ∀ h', IsZip h' z ti tp (rawInt s.heap.objs.size) → IsPair h' tp x y → Run2 k h' i1 l1 (j + 1) → Run2 kk h' i2 l2 (j + 1) → IsPair h' s.heap.objs.size x y → h'.objs.size = s.heap.objs.size + 1 →
      (∀ c o, c ≠ z → c ≠ tp → c ≠ i1 → c ≠ i2 → s.heap.get? c = some o → h'.get? c = some o) → Q (.ref s.heap.objs.size) { s with heap := h' }) :
    wpAny (model prog w) A (Builtin.«zip.__next__» ⟨[.ref z], []⟩) (fun fin s' => ∃ v, fin = .done (.ret v) ∧ Q v s') E s := by
  have Z := O.zip
  show wpAny _ _ (field (.ref z) 2 >>= fun _ => _) _ _ _
  refine wpAny_bind (wpAny_field (x := .bool false) Z rfl rfl ?_)
  show wpAny _ _ (field (.ref z) 3 >>= fun _ => _) _ _ _
  refine wpAny_bind (wpAny_field (x := .ref ti) Z rfl rfl (wpAny_bind (wpAny_seqItems O.its rfl ?_)))
  show wpAny _ _ (Builtin.SmallTypes.ownedTupleIsFree (.ref z) >>= fun _ => _) _ _ _
  refine wpAny_bind ?_
  unfold Builtin.SmallTypes.ownedTupleIsFree
  refine wpAny_bind (wpAny_field (x := .none) Z rfl rfl (wpAny_pure ?_))
  simp only [if_true]
  refine wpAny_bind (wpAny_rule (wpAny_bind (wpAny_field (x := .ref tp) Z rfl rfl ?_)))
  refine wpAny_bind (wpAny_setField_rec Z (by simp) fun ha (za : IsZip ha z ti tp .ellipsis) sa => ?_)
  refine wpAny_bind ?_
  simp only [List.zipIdx_cons, List.zipIdx_nil, List.forIn_cons, List.forIn_nil]
  -- the first one's item
  refine wpAny_bind (wpAny_bind (wpAny_onRaise ?_))
  show wpAny _ _ (Builtin.SmallTypes.nextOf (.ref i1) >>= fun _ => _) _ _ _
  refine wpAny_bind (step_one (r1.but sa.extBut P.i1z) (q1.but sa.extBut P.l1z) ex fun hb rb sb => wpAny_pure ?_)
  have pb : IsPair hb tp a b := sb.extBut _ _ P.TOi1 (sa.extBut _ _ P.TOz O.pr)
  refine wpAny_bind (wpAny_seqItems pb rfl (wpAny_bind (wpAny_updateSeq_pair pb fun hc (pc : IsPair hc tp x b) sc => wpAny_bind (wpAny_letGo (wpAny_pure ?_)))))
  -- the second one's item
  refine wpAny_bind (wpAny_bind (wpAny_onRaise ?_))
  show wpAny _ _ (Builtin.SmallTypes.nextOf (.ref i2) >>= fun _ => _) _ _ _
  have r2c : Run2 kk hc i2 l2 j := ((r2.but sa.extBut P.i2z).but sb.extBut P.i12.symm).but sc.extBut P.TOi2.symm
  have q2c : Seq2 kk hc l2 ys := ((q2.but sa.extBut P.l2z).but sb.extBut P.l2i1).but sc.extBut P.l2TO
  refine wpAny_bind (step_one r2c q2c ey fun hd rd sd => wpAny_pure ?_)
  have pd : IsPair hd tp x b := sd.extBut _ _ P.TOi2 pc
  refine wpAny_bind (wpAny_seqItems pd rfl (wpAny_bind (wpAny_updateSeq_pair pd fun he (pe : IsPair he tp x y) se => wpAny_bind (wpAny_letGo (wpAny_pure (wpAny_pure ?_))))))
  -- the pair is handed out
  refine wpAny_bind (wpAny_seqItems pe rfl (wpAny_bind (wpAny_newTuple ?_)))
  have size : he.objs.size = s.heap.objs.size := by rw [se.1, sd.1, sc.1, sb.1, sa.1]
  have ze : IsZip he z ti tp .ellipsis := se.extBut _ _ P.TOz.symm (sd.extBut _ _ P.i2z.symm (sc.extBut _ _ P.TOz.symm (sb.extBut _ _ P.i1z.symm za)))
  have keep : ∀ c o, c ≠ z → c ≠ tp → c ≠ i1 → c ≠ i2 → s.heap.get? c = some o → he.get? c = some o := fun c o n1 n2 n3 n4 e => se.extBut _ _ n2 (sd.extBut _ _ n4 (sc.extBut _ _ n2 (sb.extBut _ _ n3 (sa.extBut _ _ n1 e))))
  have r1e : Run2 k he i1 l1 (j + 1) := ((rb.but sc.extBut P.TOi1.symm).but sd.extBut P.i12).but se.extBut P.TOi1.symm
  have r2e : Run2 kk he i2 l2 (j + 1) := rd.but se.extBut P.TOi2.symm
  have zlt : z < he.objs.size := Heap.lt_size ze
  show wpAny _ _ (Builtin.SmallTypes.ownedTupleHandOut (.ref z) (.ref he.objs.size) >>= fun _ => _) _ _ _
  refine wpAny_bind ?_
  unfold Builtin.SmallTypes.ownedTupleHandOut
  have zf : IsZip (he.push { cls := .type "tuple", data := .seq #[x, y] }) z ti tp .ellipsis := Heap.get?_push_of_some _ ze
  refine wpAny_bind (wpAny_setField_rec zf (by simp) fun hg (zg : IsZip hg z ti tp (rawInt he.objs.size)) sg => ?_)
  refine wpAny_setField_rec zg (by simp) fun hk (zk : IsZip hk z ti tp (rawInt he.objs.size)) sk => ?_
  have late : ∀ c o, c ≠ z → he.get? c = some o → hk.get? c = some o := fun c o n e => sk.extBut _ _ n (sg.extBut _ _ n (Heap.get?_push_of_some _ e))
  have pk : IsPair hk he.objs.size x y := sk.extBut _ _ (Nat.ne_of_gt zlt) (sg.extBut _ _ (Nat.ne_of_gt zlt) (Heap.get?_push_size _ rfl))
  have size2 : hk.objs.size = he.objs.size + 1 := by rw [sk.1, sg.1, Heap.size_push]
  rw [size] at zk pk size2
  refine wpAny_pure ⟨_, rfl, ?_⟩
  show Q (.ref he.objs.size) _
  rw [size]
  exact g hk zk (late _ _ P.TOz pe) (r1e.on fun o e => late _ o P.i1z e) (r2e.on fun o e => late _ o P.i2z e) pk size2 fun c o n1 n2 n3 n4 e => late c o n1 (keep c o n1 n2 n3 n4 e)
theorem zip_done {z ti tp i1 i2 l1 l2 : Addr} {j : Nat} {xs ys : Array Value} {a b : Value} {Q : Fin → Shared → Prop} (hh : A.handled = none) (P : ZipApart z ti tp i1 i2 l1 l2) (O : Own3 s.heap z ti tp .none i1 i2 a b)
    (r1 : Run2 k s.heap i1 l1 j) (r2 : Run2 kk s.heap i2 l2 j) (q1 : Seq2 k s.heap l1 xs) (q2 : Seq2 kk s.heap l2 ys) (over : xs[j]? = none ∨ ys[j]? = none)
    (g : ∀ h' e, (∀ c o, c ≠ z → c ≠ tp → c ≠ i1 → c ≠ i2 → s.heap.get? c = some o → h'.get? c = some o) → (∃ o, h'.get? e = some o ∧ o.cls = .type "StopIteration") → E (.ref e) { s with heap := h' }) :
    wpAny (model prog w) A (Builtin.«zip.__next__» ⟨[.ref z], []⟩) Q E s := by
  have Z := O.zip
  show wpAny _ _ (field (.ref z) 2 >>= fun _ => _) _ _ _
  refine wpAny_bind (wpAny_field (x := .bool false) Z rfl rfl ?_)
  show wpAny _ _ (field (.ref z) 3 >>= fun _ => _) _ _ _
  refine wpAny_bind (wpAny_field (x := .ref ti) Z rfl rfl (wpAny_bind (wpAny_seqItems O.its rfl ?_)))
  show wpAny _ _ (Builtin.SmallTypes.ownedTupleIsFree (.ref z) >>= fun _ => _) _ _ _
  refine wpAny_bind ?_
  unfold Builtin.SmallTypes.ownedTupleIsFree
  refine wpAny_bind (wpAny_field (x := .none) Z rfl rfl (wpAny_pure ?_))
  simp only [if_true]
  refine wpAny_bind (wpAny_rule (wpAny_bind (wpAny_field (x := .ref tp) Z rfl rfl ?_)))
  refine wpAny_bind (wpAny_setField_rec Z (by simp) fun ha (za : IsZip ha z ti tp .ellipsis) sa => ?_)
  refine wpAny_bind ?_
  simp only [List.zipIdx_cons, List.zipIdx_nil, List.forIn_cons, List.forIn_nil]
  refine wpAny_bind (wpAny_bind (wpAny_onRaise ?_))
  show wpAny _ _ (Builtin.SmallTypes.nextOf (.ref i1) >>= fun _ => _) _ _ _
  have r1a := r1.but sa.extBut P.i1z
  have q1a := q1.but sa.extBut P.l1z
  cases ex : xs[j]? with
  | none =>
    refine wpAny_bind (step_end hh r1a q1a ex fun hb e sb ⟨oe, he, ce⟩ => ?_)
    have zb : IsZip hb z ti tp .ellipsis := sb _ _ P.i1z.symm za
    have ne : e ≠ z := by
      rintro rfl
      rw [zb] at he
      cases he
      simp at ce
    exact wpAny_setField_rec zb (by simp) fun hc _ sc => g hc e (fun c o n1 _ n3 _ x => sc.extBut _ _ n1 (sb _ _ n3 (sa.extBut _ _ n1 x))) ⟨oe, sc.extBut _ _ ne he, ce⟩
  | some x =>
    have ey : ys[j]? = none := over.resolve_left fun z => by rw [ex] at z; cases z
    refine wpAny_bind (step_one r1a q1a ex fun hb rb sb => wpAny_pure ?_)
    have pb : IsPair hb tp a b := sb.extBut _ _ P.TOi1 (sa.extBut _ _ P.TOz O.pr)
    refine wpAny_bind (wpAny_seqItems pb rfl (wpAny_bind (wpAny_updateSeq_pair pb fun hc _ sc => wpAny_bind (wpAny_letGo (wpAny_pure ?_)))))
    refine wpAny_bind (wpAny_bind (wpAny_onRaise ?_))
    show wpAny _ _ (Builtin.SmallTypes.nextOf (.ref i2) >>= fun _ => _) _ _ _
    have r2c : Run2 kk hc i2 l2 j := ((r2.but sa.extBut P.i2z).but sb.extBut P.i12.symm).but sc.extBut P.TOi2.symm
    have q2c : Seq2 kk hc l2 ys := ((q2.but sa.extBut P.l2z).but sb.extBut P.l2i1).but sc.extBut P.l2TO
    refine wpAny_bind (step_end hh r2c q2c ey fun hd e sd ⟨oe, he, ce⟩ => ?_)
    have zd : IsZip hd z ti tp .ellipsis := sd _ _ P.i2z.symm (sc.extBut _ _ P.TOz.symm (sb.extBut _ _ P.i1z.symm za))
    have ne : e ≠ z := by
      rintro rfl
      rw [zd] at he
      cases he
      simp at ce
    exact wpAny_setField_rec zd (by simp) fun hf _ sf => g hf e (fun c o n1 n2 n3 n4 x => sf.extBut _ _ n1 (sd _ _ n4 (sc.extBut _ _ n2 (sb.extBut _ _ n3 (sa.extBut _ _ n1 x))))) ⟨oe, sf.extBut _ _ ne he, ce⟩
theorem next_one {z ti tp i1 i2 l1 l2 : Addr} {j : Nat} {xs ys : Array Value} {x y a b : Value} {Q : Option Value → Shared → Prop} (P : ZipApart z ti tp i1 i2 l1 l2) (O : Own3 s.heap z ti tp .none i1 i2 a b)
    (r1 : Run2 k s.heap i1 l1 j) (r2 : Run2 kk s.heap i2 l2 j) (q1 : Seq2 k s.heap l1 xs) (q2 : Seq2 kk s.heap l2 ys) (ex : xs[j]? = some x) (ey : ys[j]? = some y)
    (g : ∀ h', IsZip h' z ti tp (rawInt s.heap.objs.size) → IsPair h' tp x y → Run2 k h' i1 l1 (j + 1) → Run2 kk h' i2 l2 (j + 1) → IsPair h' s.heap.objs.size x y → h'.objs.size = s.heap.objs.size + 1 →
      (∀ c o, c ≠ z → c ≠ tp → c ≠ i1 → c ≠ i2 → s.heap.get? c = some o → h'.get? c = some o) → Q (some (.ref s.heap.objs.size)) { s with heap := h' }) : wpAny (model prog w) A (pyNext (.ref z)) Q E s := by
  have T : s.TypeIs (.ref z) "zip" := ⟨_, O.zip, rfl⟩
  have one := zip_item (prog := prog) (w := w) (A := A.in1) (E := fun _ _ => False) (Q := fun v s' => v = .ref s.heap.objs.size ∧ Q (some v) s') P O r1 r2 q1 q2 ex ey fun h' a1 a2 a3 a4 a5 a6 a7 => ⟨rfl, g h' a1 a2 a3 a4 a5 a6 a7⟩
  unfold pyNext
  refine wpAny_bind (wpAny_attempt (wpAny_callSpecial?_slot (name := Str.ofString "__next__") T F.slot_zip_next (wpAny_call_entry F.slot_zip_next T F.entry_zip_next (zip_item P O r1 r2 q1 q2 ex ey fun h' a1 a2 a3 a4 a5 a6 a7 => ?_) (F.args_zip_next_1 _))))
  exact wpAny_pure (g h' a1 a2 a3 a4 a5 a6 a7)
theorem next_none {z ti tp i1 i2 l1 l2 : Addr} {j : Nat} {xs ys : Array Value} {a b : Value} {Q : Option Value → Shared → Prop} (hh : A.handled = none) (P : ZipApart z ti tp i1 i2 l1 l2) (O : Own3 s.heap z ti tp .none i1 i2 a b)
    (r1 : Run2 k s.heap i1 l1 j) (r2 : Run2 kk s.heap i2 l2 j) (q1 : Seq2 k s.heap l1 xs) (q2 : Seq2 kk s.heap l2 ys) (over : xs[j]? = none ∨ ys[j]? = none)
    (g : ∀ h', (∀ c o, c ≠ z → c ≠ tp → c ≠ i1 → c ≠ i2 → s.heap.get? c = some o → h'.get? c = some o) → Q none { s with heap := h' }) : wpAny (model prog w) A (pyNext (.ref z)) Q E s := by
  have T : s.TypeIs (.ref z) "zip" := ⟨_, O.zip, rfl⟩
  unfold pyNext
  refine wpAny_bind (wpAny_attempt (wpAny_callSpecial?_slot (name := Str.ofString "__next__") T F.slot_zip_next (wpAny_call_entry F.slot_zip_next T F.entry_zip_next (zip_done hh P O r1 r2 q1 q2 over fun h' e keep ⟨o, ho, ce⟩ => ?_) (F.args_zip_next_1 _))))
  exact wpAny_bind (wpAny_isInstance (T := "StopIteration") (b := true) ⟨o, ho, ce⟩ isSubtype_stop (wpAny_pure (g h' keep)))
end
/-! ### made -/
def iterO (k : Bool) (a : Addr) : Obj := { cls := .type (if k = true then "list_iterator" else "tuple_iterator"), data := .fields #[.ref a, .int 0 0] }
def h1 (k : Bool) (h : Heap) (a : Addr) : Heap := h.push (iterO k a)
def h2 (k kk : Bool) (h : Heap) (a b : Addr) : Heap := (h1 k h a).push (iterO kk b)
def h3 (k kk : Bool) (h : Heap) (a b : Addr) : Heap := (h2 k kk h a b).push { cls := .type "tuple", data := .seq #[.ref h.objs.size, .ref (h1 k h a).objs.size] }
def h4 (k kk : Bool) (h : Heap) (a b : Addr) : Heap := (h3 k kk h a b).push { cls := .type "tuple", data := .seq #[.none, .none] }
def h5 (k kk : Bool) (h : Heap) (a b : Addr) : Heap := (h4 k kk h a b).push { cls := .type "zip", data := .fields #[.none, .bool false, .bool false, .ref (h2 k kk h a b).objs.size, .ref (h3 k kk h a b).objs.size] }
theorem new_lt (a b : Addr) (xs ys : Array Value) : Meets (Builtin.«zip.__new__» ⟨[.type "zip", .ref a, .ref b], []⟩) (fun _ R s => s.heap.IsList a xs ∧ s.heap.IsTuple b ys ∧ R (.ok (.ret (.ref (h4 true false s.heap a b).objs.size))) { s with heap := h5 true false s.heap a b }) := .of_wp fun prog w A R s h => by
  obtain ⟨hp, gs, dr, tk, os⟩ := s
  obtain ⟨q1, q2, h⟩ := h
  have sub := sub_zip
  have q1 : Heap.IsList (Shared.heap ⟨hp, gs, dr, tk, os⟩) a xs := q1
  have q2 : Heap.IsTuple (Shared.heap ⟨hp.push { cls := .type "list_iterator", data := .fields #[.ref a, .int 0 0] }, gs, dr, tk, os⟩) b ys := Heap.IsTuple.push q2 _
  wp_walk using wpAny_pyIter_list q1, wpAny_pyIter_tuple q2
  exact ⟨_, rfl, h⟩
theorem new_tl (a b : Addr) (xs ys : Array Value) : Meets (Builtin.«zip.__new__» ⟨[.type "zip", .ref a, .ref b], []⟩) (fun _ R s => s.heap.IsTuple a xs ∧ s.heap.IsList b ys ∧ R (.ok (.ret (.ref (h4 false true s.heap a b).objs.size))) { s with heap := h5 false true s.heap a b }) := .of_wp fun prog w A R s h => by
  obtain ⟨hp, gs, dr, tk, os⟩ := s
  obtain ⟨q1, q2, h⟩ := h
  have sub := sub_zip
  have q1 : Heap.IsTuple (Shared.heap ⟨hp, gs, dr, tk, os⟩) a xs := q1
  have q2 : Heap.IsList (Shared.heap ⟨hp.push { cls := .type "tuple_iterator", data := .fields #[.ref a, .int 0 0] }, gs, dr, tk, os⟩) b ys := Heap.IsList.push q2 _
  wp_walk using wpAny_pyIter_tuple q1, wpAny_pyIter_list q2
  exact ⟨_, rfl, h⟩
section
variable {prog : Program} {w : World} {A : Around} {E : Value → Shared → Prop} {s : Shared}
theorem made (k kk : Bool) (h : Heap) (a b : Addr) : (h4 k kk h a b).objs.size = h.objs.size + 4 ∧ IsZip (h5 k kk h a b) (h.objs.size + 4) (h.objs.size + 2) (h.objs.size + 3) .none ∧ IsPair (h5 k kk h a b) (h.objs.size + 2) (.ref h.objs.size) (.ref (h.objs.size + 1)) ∧
    IsPair (h5 k kk h a b) (h.objs.size + 3) .none .none ∧ Run2 k (h5 k kk h a b) h.objs.size a 0 ∧ Run2 kk (h5 k kk h a b) (h.objs.size + 1) b 0 ∧ ∀ c o, h.get? c = some o → (h5 k kk h a b).get? c = some o := by
  have s1 : (h1 k h a).objs.size = h.objs.size + 1 := Heap.size_push ..
  have s2 : (h2 k kk h a b).objs.size = h.objs.size + 2 := (Heap.size_push ..).trans (by rw [s1])
  have s3 : (h3 k kk h a b).objs.size = h.objs.size + 3 := (Heap.size_push ..).trans (by rw [s2])
  have s4 : (h4 k kk h a b).objs.size = h.objs.size + 4 := (Heap.size_push ..).trans (by rw [s3])
  have u1 : ∀ c o, h.get? c = some o → (h1 k h a).get? c = some o := fun c o e => Heap.get?_push_of_some _ e
  have u2 : ∀ c o, (h1 k h a).get? c = some o → (h2 k kk h a b).get? c = some o := fun c o e => Heap.get?_push_of_some _ e
  have u3 : ∀ c o, (h2 k kk h a b).get? c = some o → (h3 k kk h a b).get? c = some o := fun c o e => Heap.get?_push_of_some _ e
  have u4 : ∀ c o, (h3 k kk h a b).get? c = some o → (h4 k kk h a b).get? c = some o := fun c o e => Heap.get?_push_of_some _ e
  have u5 : ∀ c o, (h4 k kk h a b).get? c = some o → (h5 k kk h a b).get? c = some o := fun c o e => Heap.get?_push_of_some _ e
  have g1 : (h1 k h a).get? h.objs.size = some (iterO k a) := Heap.get?_push_size _ rfl
  have g2 : (h2 k kk h a b).get? (h.objs.size + 1) = some (iterO kk b) := by rw [← s1]; exact Heap.get?_push_size _ rfl
  have g3 : IsPair (h3 k kk h a b) (h.objs.size + 2) (.ref h.objs.size) (.ref (h.objs.size + 1)) := by
    rw [← s2, ← s1]
    exact Heap.get?_push_size _ rfl
  have g4 : IsPair (h4 k kk h a b) (h.objs.size + 3) .none .none := by
    rw [← s3]
    exact Heap.get?_push_size _ rfl
  have g5 : IsZip (h5 k kk h a b) (h.objs.size + 4) (h.objs.size + 2) (h.objs.size + 3) .none := by
    rw [← s4, ← s3, ← s2]
    exact Heap.get?_push_size _ rfl
  have r1 : (h5 k kk h a b).get? h.objs.size = some (iterO k a) := u5 _ _ (u4 _ _ (u3 _ _ (u2 _ _ g1)))
  have r2 : (h5 k kk h a b).get? (h.objs.size + 1) = some (iterO kk b) := u5 _ _ (u4 _ _ (u3 _ _ g2))
  refine ⟨s4, g5, u5 _ _ (u4 _ _ g3), u5 _ _ g4, ?_, ?_, fun c o e => u5 _ _ (u4 _ _ (u3 _ _ (u2 _ _ (u1 _ _ e))))⟩
  · cases k with
    | true => exact ⟨_, r1, rfl, rfl⟩
    | false => exact ⟨_, r1, rfl, rfl⟩
  · cases kk with
    | true => exact ⟨_, r2, rfl, rfl⟩
    | false => exact ⟨_, r2, rfl, rfl⟩
theorem call_lt {a b : Addr} {xs ys : Array Value} {Q : Value → Shared → Prop} (q1 : s.heap.IsList a xs) (q2 : s.heap.IsTuple b ys) (g : Q (.ref (h4 true false s.heap a b).objs.size) { s with heap := h5 true false s.heap a b }) : wpAny (model prog w) A (call (.type "zip") [.ref a, .ref b]) Q E s :=
  callType_new F.called_zip (by decide) (F.typeCall_zip_2 _ _) (F.newCall_zip_2 _ _) (fun o => F.args_object_init_3 o _ _) F.entry_zip_new (new_lt a b xs ys) ⟨q1, q2, ⟨⟨_, (made true false s.heap a b).1 ▸ (made true false s.heap a b).2.1, rfl⟩, g⟩⟩
theorem call_tl {a b : Addr} {xs ys : Array Value} {Q : Value → Shared → Prop} (q1 : s.heap.IsTuple a xs) (q2 : s.heap.IsList b ys) (g : Q (.ref (h4 false true s.heap a b).objs.size) { s with heap := h5 false true s.heap a b }) : wpAny (model prog w) A (call (.type "zip") [.ref a, .ref b]) Q E s :=
  callType_new F.called_zip (by decide) (F.typeCall_zip_2 _ _) (F.newCall_zip_2 _ _) (fun o => F.args_object_init_3 o _ _) F.entry_zip_new (new_tl a b xs ys) ⟨q1, q2, ⟨⟨_, (made false true s.heap a b).1 ▸ (made false true s.heap a b).2.1, rfl⟩, g⟩⟩
end
end Tz
namespace Tz
open PySem PySem.Spec PyProof.Rows L2
def SqX (k : Bool) (K : PySem.W.Frag) (H : Hp) (a : Addr) (xs : List V) : Prop := match k with
  | true => SqL K H a xs
  | false => SqT K H a xs
/-- the two as they stand at each turn, the items in new pairs -/
def Itm (K : PySem.W.Frag) (k kk : Bool) (a b : Addr) : It :=
  ⟨fun i H => ∃ (us vs : List V) (x y : V), SqX k K H a us ∧ SqX kk K H b vs ∧ us[i]? = some x ∧ vs[i]? = some y,
    fun i H v G => ∃ c x y, v = .ref c ∧ H c = none ∧ G = upd H c (.tup [x, y]) ∧ (∀ us, SqX k K H a us → us[i]? = some x) ∧ ∀ vs, SqX kk K H b vs → vs[i]? = some y,
    fun i H => ∃ us vs : List V, SqX k K H a us ∧ SqX kk K H b vs ∧ (us.length ≤ i ∨ vs.length ≤ i)⟩
section
variable {X : Cx} {pins : List (Addr × Obj)} {σ : L2.St} {H : Hp} {s : Shared} {k kk : Bool}
theorem seq_at {a : Addr} {us : List V} (I : Inv X pins σ H s) (q : SqX k X.K H a us) : ∃ its : List Value, Vals us its ∧ Seq2 k s.heap a its.toArray ∧ a < s.heap.objs.size := by
  cases k with
  | true =>
    obtain ⟨its, r, p, _⟩ := I.list q
    exact ⟨its, r, p.isList, p.lt⟩
  | false =>
    obtain ⟨its, r, p, _⟩ := I.tuple q
    obtain ⟨o, e, _⟩ := id p
    exact ⟨its, r, p, Heap.lt_size e⟩
theorem seq_same {a : Addr} {us vs : List V} (I : Inv X pins σ H s) (q : SqX k X.K H a us) (r : SqX k X.K H a vs) : us = vs := by
  cases k with
  | true => exact I.list_inj q r
  | false => exact I.tuple_inj q r
end
end Tz
/-! zip of two sequences of any kinds, walked. -/
namespace Tz
open PySem PySem.Spec PyProof.Rows L2
def Stands (k kk : Bool) (z ti tp i1 i2 a b : Addr) (i : Nat) (h : Heap) : Prop := IsZip h z ti tp .none ∧ IsPair h ti (.ref i1) (.ref i2) ∧ (∃ x y, IsPair h tp x y) ∧ Run2 k h i1 a i ∧ Run2 kk h i2 b i
theorem five {z ti tp i1 i2 c : Addr} (h : c ∈ [z, ti, tp, i1, i2]) : c = z ∨ c = ti ∨ c = tp ∨ c = i1 ∨ c = i2 := by simpa using h
theorem turn_mixed {P : Program} {w : World} {K : PySem.W.Frag} {elts : List Expr} {n : Nat} {tpos : Pos} {k kk : Bool} {a b z ti tp i1 i2 : Addr} (D : ZipApart z ti tp i1 i2 a b) :
    Turn P w K (.Tuple elts n tpos) (Itm K k kk a b) [z, ti, tp, i1, i2] z (Stands k kk z ti tp i1 i2 a b) where
  mem := .head _
  obj := by
    rintro i h ⟨e1, e2, ⟨x, y, e3⟩, r1, r2⟩ c hc
    obtain ⟨o1, v1, g1, d1⟩ := r1.obj
    obtain ⟨o2, v2, g2, d2⟩ := r2.obj
    rcases five hc with rfl | rfl | rfl | rfl | rfl
    · exact ⟨_, e1, fun _ q => nomatch q⟩
    · exact ⟨_, e2, fun _ q => nomatch q⟩
    · exact ⟨_, e3, fun _ q => nomatch q⟩
    · exact ⟨o1, g1, fun v q => nomatch d1.symm.trans q⟩
    · exact ⟨o2, g2, fun v q => nomatch d2.symm.trans q⟩
  keep := by
    rintro i h h' ⟨e1, e2, ⟨x, y, e3⟩, r1, r2⟩ kp
    exact ⟨kp z (by simp) _ e1, kp ti (by simp) _ e2, ⟨x, y, kp tp (by simp) _ e3⟩, r1.on fun o q => kp i1 (by simp) o q, r2.on fun o q => kp i2 (by simp) o q⟩
  item := by
    rintro X hP hw hK hc i pins s σ H E I hf ⟨e1, e2, ⟨x0, y0, e3⟩, r1, r2⟩ ⟨us, vs, x, y, qa, qb, hx, hy⟩
    subst hP hw hK
    obtain ⟨ia, va, sa, la⟩ := seq_at I qa
    obtain ⟨ib, vb, sb, lb⟩ := seq_at I qb
    obtain ⟨u, hu, ru⟩ := va.get hx
    obtain ⟨u2, hu2, ru2⟩ := vb.get hy
    have zl : z < s.heap.objs.size := Heap.lt_size e1
    refine next_one D ⟨e1, e2, e3⟩ r1 r2 sa sb (x := u) (y := u2) (by simpa using hu) (by simpa using hu2) fun h' z' p' r1' r2' pT _ kp => ⟨_, rfl, wpAny_letOwnedTupleGo_zip (s := { s with heap := h' }) z' fun g zg but => ?_⟩
    have pT2 : IsPair g s.heap.objs.size u u2 := (but.2 _ (Nat.ne_of_gt zl)).trans pT
    have fresh : ObjOk X.prog X.w (upd H s.heap.objs.size (.tup [x, y])) g s.heap.objs.size (.tup [x, y]) := ⟨by show 2 ≤ sizeLine; decide, [u, u2], .cons ru (.cons ru2 .nil), ⟨_, pT2, rfl, _, rfl⟩⟩
    have all : ∀ c o, c ∉ [z, ti, tp, i1, i2] → s.heap.get? c = some o → g.get? c = some o := fun c o nc q => (but.2 c fun q' => nc (by simp [q'])).trans (kp c o (fun q' => nc (by simp [q'])) (fun q' => nc (by simp [q'])) (fun q' => nc (by simp [q'])) (fun q' => nc (by simp [q'])) q)
    have J : Inv X pins σ (upd H s.heap.objs.size (.tup [x, y])) { s with heap := g } := I.turnedNew (t' := s.toks) (ch := [z, ti, tp, i1, i2]) all hf (Nat.le_refl _) fresh
    refine ⟨.ref s.heap.objs.size, _, J, rfl, ⟨_, x, y, rfl, I.hok.fresh (Nat.le_refl _), rfl, fun l hl => by rw [seq_same I hl qa]; exact hx, fun l hl => by rw [seq_same I hl qb]; exact hy⟩, ⟨zg, ?_, ⟨u, u2, ?_⟩, ?_, ?_⟩, fun c hc => ?_⟩
    · exact (but.2 _ D.TIz).trans (kp _ _ D.TIz D.TITO D.TIi1 D.TIi2 e2)
    · exact (but.2 _ D.TOz).trans p'
    · exact r1'.on fun o q => (but.2 _ D.i1z).trans q
    · exact r2'.on fun o q => (but.2 _ D.i2z).trans q
    · have lt : c < s.heap.objs.size := by
        rcases five hc with q | q | q | q | q <;> rw [q]
        · exact zl
        · exact Heap.lt_size e2
        · exact Heap.lt_size e3
        · exact r1.lt
        · exact r2.lt
      exact (upd_ne (Nat.ne_of_lt lt)).trans (hf c hc).1
  done := by
    rintro X hP hw hK hc i pins s σ H E I hf ⟨e1, e2, ⟨x0, y0, e3⟩, r1, r2⟩ ⟨us, vs, qa, qb, over⟩
    subst hP hw hK
    obtain ⟨ia, va, sa, la⟩ := seq_at I qa
    obtain ⟨ib, vb, sb, lb⟩ := seq_at I qb
    have n1 := va.length
    have n2 := vb.length
    have ov : ia.toArray[i]? = none ∨ ib.toArray[i]? = none := over.imp (fun q => by simp; omega) fun q => by simp; omega
    exact next_none (I.ok.hd hc) D ⟨e1, e2, e3⟩ r1 r2 sa sb ov fun h' kp => ⟨rfl, I.turnedL (t' := s.toks) (ch := [z, ti, tp, i1, i2]) (fun c o nc q =>
      kp c o (fun q' => nc (by simp [q'])) (fun q' => nc (by simp [q'])) (fun q' => nc (by simp [q'])) (fun q' => nc (by simp [q'])) q) hf⟩
  self := fun A i s Q E st g => wpAny_pyIter_zip st.1 g
/-- zip(e, f) is walked: k, kk tell whether the two are lists -/
def iZipM (K : PySem.W.Frag) (ta : TA) : TI := fun σ H R => ta σ H fun ws G => ∃ (k kk : Bool) (a b : Addr) (us vs : List V), ws = [.ref a, .ref b] ∧ k ≠ kk ∧ SqX k K G a us ∧ SqX kk K G b vs ∧ R (Itm K k kk a b) G
theorem pi_zipM {X : Cx} {e f : Expr} {ta : TA} {p pos tpos : Pos} {elts : List Expr} {n : Nat} (hg : Gl X "zip") (hm : X.mg "zip" = none) (ha : PA X [e, f] ta) (hs : starEach [e, f] X.env = (false, eval e X.env) :: starEach [f] X.env) (hpl : (backTo pos (starEach [f] X.env)).any (·.1) = false) :
    PI X (.Tuple elts n tpos) (.Call (.Name "zip" p) [e, f] [] pos) (iZipM X.K ta) := by
  refine ⟨fun pins s σ H R I h => ?_⟩
  refine Call_ (ld_blt I hg hm PyProof.Rows.boot_zip (PyProof.Rows.callWith_type1 (thn (ha.run pos pins s σ H _ I h) fun us1 s1 ⟨ws, G, J, r, k, kk, a, b, us, vs, ew, ne, qa, qb, q⟩ => ?_) hs hpl))
  subst ew
  cases r with
  | cons ra rr =>
  cases rr with
  | cons rb rr =>
  cases rr
  cases ra
  cases rb
  obtain ⟨ia, va, sa, la⟩ := seq_at J qa
  obtain ⟨ib, vb, sb, lb⟩ := seq_at J qb
  obtain ⟨m1, m2, m3, m4, m5, m6, m7⟩ := made k kk s1.heap a b
  have J2 : Inv X pins σ G { s1 with heap := h5 k kk s1.heap a b } := J.kept (t' := s1.toks) m7
  have fr : ∀ c, c ∈ [s1.heap.objs.size + 4, s1.heap.objs.size + 2, s1.heap.objs.size + 3, s1.heap.objs.size, s1.heap.objs.size + 1] → FpOk X pins G c := fun c hc => by
    have le : s1.heap.objs.size ≤ c := by
      rcases five hc with q | q | q | q | q <;> rw [q] <;> first | exact Nat.le_add_right _ _ | exact Nat.le_refl _
    exact J.fpOk le (J.hok.fresh le)
  have fin : wpAny (model X.prog X.w) X.A (pyIter (.ref (h4 k kk s1.heap a b).objs.size)) (PIE X pins σ (.Tuple elts n tpos) R) X.xe { s1 with heap := h5 k kk s1.heap a b } := by
    rw [m1]
    exact wpAny_pyIter_zip m2 ⟨_, _, _, _, G, rfl, J2, turn_mixed (PySem.W.ktu_apart s1.heap.objs.size a b la lb), ⟨m2, m3, ⟨_, _, m4⟩, m5, m6⟩, fr, q⟩
  cases k with
  | true =>
    cases kk with
    | true => exact absurd rfl ne
    | false => exact call_lt sa sb fin
  | false =>
    cases kk with
    | true => exact call_tl sa sb fin
    | false => exact absurd rfl ne
end Tz
/-! max(x) of a tuple of ints. -/
namespace Tc
open PySem PySem.Spec PyProof.Rows L2
theorem reads_ints {h : Heap} : ∀ {us : List Value} {ns : List Int}, IntsAre us ns → ∃ as, ReadsAll h us (ns.map PyData.int) as
  | _, _, .nil => ⟨_, .nil⟩
  | _, _, .cons n t r => by
    obtain ⟨as, z⟩ := reads_ints (h := h) r
    exact ⟨_, .cons (Reads.int n t) z⟩
theorem alike_ints (ns : List Int) : PySem.W.AlikeAll (ns.map PyData.int) := by
  refine ⟨fun x hx y hy => ?_, fun x hx => ?_⟩
  · obtain ⟨i, _, rfl⟩ := List.mem_map.mp hx
    obtain ⟨j, _, rfl⟩ := List.mem_map.mp hy
    rfl
  · obtain ⟨i, _, rfl⟩ := List.mem_map.mp hx
    exact fun e => nomatch e
theorem depth_ints : ∀ l : List Int, PyData.depthAll (l.map PyData.int) = 0
  | [] => rfl
  | i :: l => by
    show max 0 (PyData.depthAll (l.map PyData.int)) = 0
    rw [depth_ints l] <;> rfl
theorem foldl_max : ∀ (l : List Int) (n : Int), (l.foldl max n) ∈ n :: l ∧ ∀ y ∈ n :: l, y ≤ l.foldl max n
  | [], n => ⟨.head _, fun y hy => by
    cases hy with
    | head => exact Int.le_refl _
    | tail _ h => cases h⟩
  | m :: l, n => by
    obtain ⟨h1, h2⟩ := foldl_max l (max n m)
    refine ⟨?_, fun y hy => ?_⟩
    · show l.foldl max (max n m) ∈ n :: m :: l
      rcases List.mem_cons.mp h1 with e | e
      · rw [e]
        rcases Int.le_total n m with z | z
        · rw [Int.max_eq_right z]
          exact .tail _ (.head _)
        · rw [Int.max_eq_left z]
          exact .head _
      · exact .tail _ (.tail _ e)
    · show y ≤ l.foldl max (max n m)
      have h0 := h2 (max n m) (.head _)
      rcases List.mem_cons.mp hy with e | e
      · rw [e]
        exact Int.le_trans (Int.le_max_left n m) h0
      · rcases List.mem_cons.mp e with e | e
        · rw [e]
          exact Int.le_trans (Int.le_max_right n m) h0
        · exact h2 y (.tail _ e)
section
variable {X : Cx}
/-- max(x) of a tuple of ints -/
def rMaxT (K : PySem.W.Frag) : List V → Hp → VK → Prop := fun vs H Q => ∃ (a : Addr) (ns : List Int), vs = [V.ref a] ∧ SqT K H a (ns.map V.int) ∧ 0 < ns.length ∧ ∀ m, m ∈ ns → (∀ y, y ∈ ns → y ≤ m) → Q (.int m) H
theorem cr_maxT (hc : X.calm = true) (hu : X.A.units + 64 < cLine) : CallR X (.builtin "max") (rMaxT X.K) := by
  intro pins s σ H vs us Q I r h
  obtain ⟨a, ns, rfl, hs, hne, q⟩ := h
  obtain ⟨its, rv, hT, _⟩ := I.tuple hs
  rw [Vals.ref1 r]
  have hi := rv.ints
  cases ns with
  | nil => exact absurd hne (by decide)
  | cons n r =>
  obtain ⟨as, ra⟩ := reads_ints (h := s.heap) hi
  refine PySem.W.max_tuple_data (I.ok.hd hc) hT (by simpa using ra) (alike_ints (n :: r)) ?_ fun i v h' tk bs hv hr hk => ?_
  · have z := depth_ints (n :: r)
    rw [show PyData.int n :: r.map PyData.int = (n :: r).map PyData.int from rfl, z]
    omega
  rw [PySem.W.maxD_ints] at hr
  obtain ⟨t, e⟩ : ∃ t, v = Value.int (r.foldl max n) t := by
    cases hr with
    | int i t => exact ⟨t, rfl⟩
  obtain ⟨m1, m2⟩ := foldl_max r n
  exact ⟨.int (r.foldl max n), H, I.kept hk, ⟨t, e⟩, q _ m1 m2⟩
end
end Tc
/-! sum of a tuple of ints. -/
namespace Tz
open PySem PySem.Spec PyProof.Rows L2
section
variable {prog : Program} {w : World} {A : Around} {E : Value → Shared → Prop} {s : Shared} {l : Addr}
theorem sum_tup {ps : Array (Int × Tok)} {Q : Value → Shared → Prop} (hh : A.handled = none) (q : s.heap.IsTuple l (intItems ps))
    (g : ∀ h' tk t, (∀ b o, s.heap.get? b = some o → h'.get? b = some o) → Q (.int (preSum (numAt ps) ps.size) t) { s with heap := h', toks := tk }) : wpAny (model prog w) A (call (.builtin "sum") [.ref l]) Q E s := by
  have lt : l < s.heap.objs.size := by
    obtain ⟨o, e, _⟩ := id q
    exact Heap.lt_size e
  refine call_sum_walkG (wpAny_pyIter_tuple q ?_)
  have up : ∀ b o, s.heap.get? b = some o → (s.heap.push { cls := .type "tuple_iterator", data := .fields #[.ref l, .int 0 0] }).get? b = some o := fun b o e => Heap.get?_push_of_some _ e
  have st : (s.heap.push { cls := .type "tuple_iterator", data := .fields #[.ref l, .int 0 0] }).IsTupleIter s.heap.objs.size l 0 ∧ (s.heap.push { cls := .type "tuple_iterator", data := .fields #[.ref l, .int 0 0] }).IsTuple l (intItems ps) := ⟨⟨_, Heap.get?_push_size _ rfl, rfl, rfl⟩, q.push _⟩
  have within : ∀ b ∈ [s.heap.objs.size, l], b < (s.heap.push { cls := .type "tuple_iterator", data := .fields #[.ref l, .int 0 0] }).objs.size := fun b hb => by
    rw [Heap.size_push]
    rcases List.mem_cons.mp hb with e | hb
    · rw [e]
      exact Nat.lt_succ_self _
    · rw [List.mem_singleton.mp hb]
      exact Nat.lt_succ_of_lt lt
  refine ⟨_, _, _, _, _, _, numAt ps, rfl, Walks.tuple (A := A.in1) hh _ l (Nat.ne_of_lt lt) (intItems ps), st, within, (fun _ _ => intItems_at), fun h' tk t kp => ?_⟩
  have z := g h' tk t fun b o e => kp b o (fun hm => absurd (Heap.lt_size e) (by rw [List.mem_singleton.mp hm]; exact Nat.lt_irrefl _)) (up b o e)
  simpa [intItems] using z
end
def rSumT (K : PySem.W.Frag) : List V → Hp → VK → Prop := fun vs H Q => ∃ (a : Addr) (ns : List Int), vs = [V.ref a] ∧ SqT K H a (ns.map V.int) ∧ Q (.int ns.sum) H
theorem cr_sumT {X : Cx} (hc : X.calm = true) : CallR X (.builtin "sum") (rSumT X.K) := by
  intro pins s σ H vs us Q I r h
  obtain ⟨a, ns, rfl, hs, q⟩ := h
  obtain ⟨its, rv, p, _⟩ := I.tuple hs
  rw [Vals.ref1 r]
  have hi := rv.ints
  obtain ⟨ps, e⟩ := hi.allInts.items
  have hn : numsOf (intItems ps).toList = ns := by rw [← e]; exact hi.numsOf
  rw [nums_intItems] at hn
  have p : s.heap.IsTuple a its.toArray := p
  rw [e] at p
  refine sum_tup (I.ok.hd hc) p fun h' tk t kp => ?_
  rw [preSum_eq, List.take_of_length_le (by simp), hn]
  exact ⟨.int ns.sum, H, I.kept (t' := tk) kp, ⟨t, rfl⟩, q⟩
end Tz
/-! Built-ins, slices, texts. -/
namespace Px
open PySem PySem.Spec PyProof.Rows L2 Tc
section
variable {B : Bas} {X : Cx} {Γ : List Sl} {pos : Pos} {k : Nat}
/-! ### one argument, a plain answer -/
def Fn1 (r : List V → Hp → VK → Prop) (d : PyData) (k : PyData → Prop) : Prop := ∀ (H : Hp) (v : V) (Q : VK), Dv H v d → (∀ d' v', k d' → (∀ H', Dv H' v' d') → Q v' H) → r [v] H Q
theorem ge_b1 {x : Str} {p : Pos} {a : Expr} {id : String} {r : List V → Hp → VK → Prop} {φ : PyData → List Sl → Prop} (hc : CallR X (.builtin id) r) (R : PyData → (PyData → Prop) → Prop) (sem : ∀ d k, R d k → Fn1 r d k) (hg : Gl X x) (hm : X.mg x = none) (hv : bootBuiltins x = some (.builtin id))
    (h : GB B X a Γ fun d Γ1 => R d fun d' => φ d' Γ1) (hn : x ≠ "__name__" := by decide) (hdb : (x == ("__debug__" : Str)) = false := by decide) (he : starEach [a] X.env = (false, eval a X.env) :: starEach [] X.env := by rfl) : GE B X (.Call (.Name x p) [a] [] pos) Γ φ := fun Hs σ H Q S g =>
  pe_of (pe_callB hc hg hm hv (pa_cons pe_W pa_nil he) hn hdb (he := he)) (show teW X a σ H _ from h Hs σ H _ S fun d Γ1 v Hs1 H1 p s S1 q => sem d _ p H1 v Q q fun d' v' kd hd => g d' Γ1 v' Hs1 H1 kd s S1 (hd Hs1))
theorem ge_t1 {x : Str} {p : Pos} {a : Expr} {id : String} {r : List V → Hp → VK → Prop} {φ : PyData → List Sl → Prop} (hc : CallR X (.type id) r) (R : PyData → (PyData → Prop) → Prop) (sem : ∀ d k, R d k → Fn1 r d k) (hg : Gl X x) (hm : X.mg x = none) (hv : bootBuiltins x = some (.type id))
    (h : GB B X a Γ fun d Γ1 => R d fun d' => φ d' Γ1) (hn : x ≠ "__name__" := by decide) (hdb : (x == ("__debug__" : Str)) = false := by decide) (he : starEach [a] X.env = (false, eval a X.env) :: starEach [] X.env := by rfl) : GE B X (.Call (.Name x p) [a] [] pos) Γ φ := fun Hs σ H Q S g =>
  pe_of (pe_callTy hc hg hm hv (pa_cons pe_W pa_nil he) hn hdb (he := he)) (show teW X a σ H _ from h Hs σ H _ S fun d Γ1 v Hs1 H1 p s S1 q => sem d _ p H1 v Q q fun d' v' kd hd => g d' Γ1 v' Hs1 H1 kd s S1 (hd Hs1))
def IntF (d : PyData) (k : PyData → Prop) : Prop := match d with
  | .int i => k (.int i)
  | .bool b => k (.int (if b then 1 else 0))
  | .str z => ∃ n, PySem.intText? z = some n ∧ z.length ≤ 640 ∧ k (.int n)
  | _ => False
def SumD (d : PyData) (k : PyData → Prop) : Prop := ∃ ns : List Int, (d = .list (ns.map .int) ∨ d = .tuple (ns.map .int)) ∧ k (.int ns.sum)
def MaxD (d : PyData) (k : PyData → Prop) : Prop := ∃ ns : List Int, (d = .list (ns.map .int) ∨ d = .tuple (ns.map .int)) ∧ 0 < ns.length ∧ ∀ m, m ∈ ns → (∀ y, y ∈ ns → y ≤ m) → k (.int m)
def AllD (d : PyData) (k : PyData → Prop) : Prop := ∃ bs : List Bool, d = .list (bs.map .bool) ∧ k (.bool (bs.all id))
def RepD (d : PyData) (k : PyData → Prop) : Prop := Good d ∧ k (.str d.shown)
def rInt (xs : List V) (H : Hp) (Q : VK) : Prop := ((∃ i, xs = [.int i] ∧ Q (.int i) H) ∨ ∃ k, xs = [.bl k] ∧ Q (.int (if k then 1 else 0)) H) ∨ ∃ a n, xs = [.str a] ∧ PySem.intText? a = some n ∧ a.length ≤ 640 ∧ Q (.int n) H
theorem call_intA : CallR X (.type "int") rInt := CallR.or call_int1 call_int_str
theorem sem_int1 (d : PyData) (k : PyData → Prop) (h : IntF d k) : Fn1 rInt d k := fun H v Q q g => by
  cases q with
  | int i => exact .inl (.inl ⟨i, rfl, g _ _ h fun _ => .int _⟩)
  | bl b => exact .inl (.inr ⟨b, rfl, g _ _ h fun _ => .int _⟩)
  | str z =>
    obtain ⟨n, e, l, h⟩ := h
    exact .inr ⟨z, n, rfl, e, l, g _ _ h fun _ => .int _⟩
  | _ => exact h.elim
theorem sem_sum {K : PySem.W.Frag} (d : PyData) (k : PyData → Prop) (h : SumD d k) : Fn1 (fun xs H Q => rSum K xs H Q ∨ Tz.rSumT K xs H Q) d k := fun H v Q q g => by
  obtain ⟨ns, rfl | rfl, h⟩ := h
  · cases q with
    | lst r a =>
      rw [dvs_ints a] at r
      exact .inl ⟨_, ns, rfl, rdL r, g _ _ h fun _ => .int _⟩
  · cases q with
    | tup r a =>
      rw [dvs_ints a] at r
      exact .inr ⟨_, ns, rfl, rdT r, g _ _ h fun _ => .int _⟩
theorem sem_max {K : PySem.W.Frag} (d : PyData) (k : PyData → Prop) (h : MaxD d k) : Fn1 (fun xs H Q => rMax K xs H Q ∨ rMaxT K xs H Q) d k := fun H v Q q g => by
  obtain ⟨ns, rfl | rfl, l, h⟩ := h
  · cases q with
    | lst r a =>
      rw [dvs_ints a] at r
      exact .inl ⟨_, ns, rfl, rdL r, l, fun m hm hy => g _ _ (h m hm hy) fun _ => .int _⟩
  · cases q with
    | tup r a =>
      rw [dvs_ints a] at r
      exact .inr ⟨_, ns, rfl, rdT r, l, fun m hm hy => g _ _ (h m hm hy) fun _ => .int _⟩
theorem sem_all {K : PySem.W.Frag} (d : PyData) (k : PyData → Prop) (h : AllD d k) : Fn1 (rAll K) d k := fun H v Q q g => by
  obtain ⟨ns, rfl, h⟩ := h
  cases q with
  | lst r a =>
    rw [dvs_bools a] at r
    exact ⟨_, ns, rfl, rdL r, g _ _ h fun _ => .bl _⟩
theorem sem_repr (d : PyData) (k : PyData → Prop) (h : RepD d k) : Fn1 rRepr d k := fun H v Q q g => ⟨v, d, rfl, q, h.1.1, h.1.2.1, h.1.2.2, g _ _ h.2 fun _ => .str _⟩
section
variable {x : Str} {p : Pos} {a : Expr} {φ : PyData → List Sl → Prop}
theorem ge_int1 (hx : x = "int") (hg : Gl X x) (hm : X.mg x = none) (h : GB B X a Γ fun d Γ1 => IntF d fun d' => φ d' Γ1) (he : starEach [a] X.env = (false, eval a X.env) :: starEach [] X.env := by rfl) : GE B X (.Call (.Name x p) [a] [] pos) Γ φ := by
  subst hx; exact ge_t1 call_intA IntF sem_int1 hg hm (by decide +kernel) h (he := he)
theorem ge_sum (calm : X.calm = true) (hx : x = "sum") (hg : Gl X x) (hm : X.mg x = none) (h : GB B X a Γ fun d Γ1 => SumD d fun d' => φ d' Γ1) (he : starEach [a] X.env = (false, eval a X.env) :: starEach [] X.env := by rfl) : GE B X (.Call (.Name x p) [a] [] pos) Γ φ := by
  subst hx; exact ge_b1 (CallR.or (cr_sum calm) (Tz.cr_sumT calm)) SumD sem_sum hg hm (by decide +kernel) h (he := he)
theorem ge_max1 (calm : X.calm = true) (c : Cxt X k) (hx : x = "max") (hg : Gl X x) (hm : X.mg x = none) (h : GB B X a Γ fun d Γ1 => MaxD d fun d' => φ d' Γ1) (he : starEach [a] X.env = (false, eval a X.env) :: starEach [] X.env := by rfl) : GE B X (.Call (.Name x p) [a] [] pos) Γ φ := by
  subst hx; exact ge_b1 (CallR.or (cr_max calm) (cr_maxT calm c.room.units)) MaxD sem_max hg hm (by decide +kernel) h (he := he)
theorem ge_all (calm : X.calm = true) (hx : x = "all") (hg : Gl X x) (hm : X.mg x = none) (h : GB B X a Γ fun d Γ1 => AllD d fun d' => φ d' Γ1) (he : starEach [a] X.env = (false, eval a X.env) :: starEach [] X.env := by rfl) : GE B X (.Call (.Name x p) [a] [] pos) Γ φ := by
  subst hx; exact ge_b1 (cr_all calm) AllD sem_all hg hm (by decide +kernel) h (he := he)
theorem ge_repr (c : Cxt X k) (hx : x = "repr") (hg : Gl X x) (hm : X.mg x = none) (h : GB B X a Γ fun d Γ1 => RepD d fun d' => φ d' Γ1) (he : starEach [a] X.env = (false, eval a X.env) :: starEach [] X.env := by rfl) : GE B X (.Call (.Name x p) [a] [] pos) Γ φ := by
  subst hx; exact ge_b1 (call_repr c.room c.gd c.sm) RepD sem_repr hg hm (by decide +kernel) h (he := he)
/-! ### isinstance of a built-in kind -/
def isD (T : String) (d : PyData) : Bool := tyIs (tyD d) T
theorem ge_isi {y : Str} {py : Pos} {T : String} (hx : x = "isinstance") (hg : Gl X x) (hm : X.mg x = none) (gy : Gl X y) (my : X.mg y = none) (by_ : bootBuiltins y = some (.type T)) (hT : T ∈ ["int", "bool", "tuple", "str", "list"])
    (h : GB B X a Γ fun d Γ1 => φ (.bool (isD T d)) Γ1) (hn : y ≠ "__name__" := by decide) (hdb : (y == ("__debug__" : Str)) = false := by decide)
    (he : starEach [a, .Name y py] X.env = (false, eval a X.env) :: starEach [.Name y py] X.env := by rfl) (he2 : starEach [.Name y py] X.env = (false, eval (.Name y py) X.env) :: starEach [] X.env := by rfl) (hpl : (backTo pos (starEach [.Name y py] X.env)).any (·.1) = false := by rfl) : GE B X (.Call (.Name x p) [a, .Name y py] [] pos) Γ φ := by
  subst hx
  exact fun Hs σ H Q S g => pe_of (pe_callB call_isi hg hm (by decide +kernel) (pa_cons pe_W (pa_cons (pe_bltn (v := .ty T) gy my by_ rfl hn hdb) pa_nil he2) he) (he := he) (hpl := hpl)) (show teW X a σ H _ from h Hs σ H _ S fun d Γ1 v Hs1 H1 p s S1 q => isi_D q hT (g _ Γ1 _ Hs1 H1 p s S1 (.bl _)))
/-! ### two ints -/
theorem ge_divmod {b : Expr} (hx : x = "divmod") (hg : Gl X x) (hm : X.mg x = none) (h : GA B X [a, b] Γ fun ds Γ1 => ∃ i j : Int, ds = [.int i, .int j] ∧ CDivP i j ∧ φ (.tuple [.int (i / j), .int (i % j)]) Γ1)
    (he : starEach [a, b] X.env = (false, eval a X.env) :: starEach [b] X.env := by rfl) (hpl : (backTo pos (starEach [b] X.env)).any (·.1) = false := by rfl) : GE B X (.Call (.Name x p) [a, b] [] pos) Γ φ := by
  subst hx
  exact fun Hs σ H Q S g => pe_of (pe_callB call_divmodW hg hm (by decide +kernel) pa_W (he := he) (hpl := hpl)) (h Hs σ H _ S fun ds Γ1 vs Hs1 H1 ⟨i, j, e, cd, p⟩ s S1 dv => by
    subst e
    exact ⟨i, j, dvs_ints (ns := [i, j]) dv, cd, tup_new S1 (.cons (.int _) (.cons (.int _) .nil)) fun v Hs2 H2 s2 S2 q => g _ Γ1 v Hs2 H2 p (s.trans s2) S2 q⟩)
/-! ### tuple(x), list(x), sorted(x) -/
theorem ge_tupL (hx : x = "tuple") (hg : Gl X x) (hm : X.mg x = none) (h : GQ B X true a Γ fun ds Γ1 => φ (.tuple ds) Γ1) (he : starEach [a] X.env = (false, eval a X.env) :: starEach [] X.env := by rfl) : GE B X (.Call (.Name x p) [a] [] pos) Γ φ := by
  subst hx
  exact fun Hs σ H Q S g => pe_of (pe_callTy call_tuple_of hg hm (by decide +kernel) (pa_cons pe_W pa_nil he) (he := he)) (show teW X a σ H _ from h Hs σ H _ S fun ds Γ1 b vs Hs1 H1 p s S1 hq dv =>
    ⟨b, vs, rfl, .inl ⟨hq, tup_new S1 dv fun v Hs2 H2 s2 S2 q => g _ Γ1 v Hs2 H2 p (s.trans s2) S2 q⟩⟩)
theorem gf_list1 (b : Bool) {χ : List PyData → List Sl → Prop} (hx : x = "list") (hg : Gl X x) (hm : X.mg x = none) (h : GQ B X b a Γ χ) (he : starEach [a] X.env = (false, eval a X.env) :: starEach [] X.env := by rfl) : GF B X (.Call (.Name x p) [a] [] pos) Γ χ := by
  subst hx
  exact fun Hs σ H Q S g => pe_of (pe_callTy call_list_of hg hm (by decide +kernel) (pa_cons pe_W pa_nil he) (he := he)) (show teW X a σ H _ from h Hs σ H _ S fun ds Γ1 c vs Hs1 H1 p s S1 hq dv =>
    ⟨c, vs, rfl, by cases b with | true => exact .inl hq | false => exact .inr hq, fun l hl => by
      obtain ⟨f, n, al⟩ := alone_new S1 hl
      exact g ds Γ1 l vs Hs1 _ p s (S1.aside hl) f n al upd_same dv⟩)
theorem dvs_of_strs {H : Hp} : ∀ ns : List Str, DvAll H (ns.map V.str) (ns.map PyData.str)
  | [] => .nil
  | n :: r => .cons (.str n) (dvs_of_strs r)
end
/-! ### parts -/
def GO (B : Bas) (X : Cx) (e : Option Expr) (Γ : List Sl) (φ : Option Int → List Sl → Prop) : Prop := ∃ t, PO X e t ∧ ∀ (Hs : Hp) (σ : L2.St) (H : Hp) (Q : Option Int → Hp → Prop), Sx B Hs σ H Γ →
  (∀ o Γ' Hs' H', φ o Γ' → Same Hs Hs' → Sx B Hs' σ H' Γ' → Q o H') → t σ H Q
theorem go_none {φ : Option Int → List Sl → Prop} (h : φ none Γ) : GO B X none Γ φ := ⟨_, po_none, fun Hs σ H Q S g => g none Γ Hs H h (Same.refl _) S⟩
theorem go_some {e : Expr} {φ : Option Int → List Sl → Prop} (h : GE B X e Γ fun d Γ1 => ∃ i : Int, d = .int i ∧ φ (some i) Γ1) : GO B X (some e) Γ φ := ⟨_, po_some pe_W, fun Hs σ H Q S g => h Hs σ H _ S fun d Γ1 v Hs1 H1 ⟨i, e, p⟩ s S1 q => by
  subst e
  cases q
  exact ⟨i, rfl, g _ Γ1 Hs1 H1 p s S1⟩⟩
def cutD (ds : List PyData) (lo hi : Option Int) : List PyData := (ds.drop (HT.sIx ds.length 0 lo)).take (HT.sIx ds.length ds.length hi - HT.sIx ds.length 0 lo)
theorem dvs_cut {H : Hp} {vs : List V} {ds : List PyData} (h : DvAll H vs ds) (lo hi : Option Int) : DvAll H (cutV vs lo hi) (cutD ds lo hi) := by
  unfold cutV cutD
  rw [h.len]
  exact dvs_take _ (dvs_drop _ h)
def SlD (d : PyData) (lo hi : Option Int) (k : PyData → Prop) : Prop := match d with
  | .list ds => k (.list (cutD ds lo hi))
  | .tuple ds => k (.tuple (cutD ds lo hi))
  | .str z => z.length ≤ sizeLine ∧ k (.str (cutS z lo hi))
  | _ => False
theorem cut_whole {ds : List PyData} {lo hi : Option Int} (h : HT.sIx ds.length 0 lo = 0 ∧ HT.sIx ds.length ds.length hi = ds.length) : cutD ds lo hi = ds := by
  unfold cutD
  rw [h.1, h.2, List.drop_zero, Nat.sub_zero, List.take_length]
@[irreducible] def toW (X : Cx) (e : Option Expr) : TO := fun σ H Q => ∀ (pins : List (Addr × Obj)) (s : Shared), Inv X pins σ H s → wpAny (model X.prog X.w) X.A (evalPart e X.env) (fun u s' => ∃ o H', Inv X pins σ H' s' ∧ IsPart u o ∧ Q o H') X.xe s
theorem toI {e : Option Expr} {σ : L2.St} {H : Hp} {Q : Option Int → Hp → Prop} (h : ∀ (pins : List (Addr × Obj)) (s : Shared), Inv X pins σ H s → wpAny (model X.prog X.w) X.A (evalPart e X.env) (fun u s' => ∃ o H', Inv X pins σ H' s' ∧ IsPart u o ∧ Q o H') X.xe s) : toW X e σ H Q := by unfold toW; exact h
theorem toE {e : Option Expr} {σ : L2.St} {H : Hp} {Q : Option Int → Hp → Prop} (h : toW X e σ H Q) : ∀ (pins : List (Addr × Obj)) (s : Shared), Inv X pins σ H s → wpAny (model X.prog X.w) X.A (evalPart e X.env) (fun u s' => ∃ o H', Inv X pins σ H' s' ∧ IsPart u o ∧ Q o H') X.xe s := by unfold toW at h; exact h
theorem po_W {e : Option Expr} : PO X e (toW X e) := ⟨fun pins s _ _ _ I h => toE h pins s I⟩
theorem po_of {e : Option Expr} {t : TO} (p : PO X e t) {σ : L2.St} {H : Hp} {Q : Option Int → Hp → Prop} (h : t σ H Q) : toW X e σ H Q := toI fun pins s I => p.run pins s σ H Q I h
theorem go_run {e : Option Expr} {φ : Option Int → List Sl → Prop} (h : GO B X e Γ φ) : ∀ (Hs : Hp) (σ : L2.St) (H : Hp) (Q : Option Int → Hp → Prop), Sx B Hs σ H Γ → (∀ o Γ' Hs' H', φ o Γ' → Same Hs Hs' → Sx B Hs' σ H' Γ' → Q o H') → toW X e σ H Q := fun Hs σ H Q S g => by
  obtain ⟨t, p, h⟩ := h
  exact po_of p (h Hs σ H Q S g)
def rSlAny (K : PySem.W.Frag) : V → Option Int → Option Int → Hp → VK → Prop := fun x lo hi H Q => rSlL K x lo hi H Q ∨ (rSlA K x lo hi H Q ∨ rSlS x lo hi H Q)
theorem ge_slice {a : Expr} {lo hi : Option Expr} {p2 : Pos} {φ : PyData → List Sl → Prop} (h : GE B X a Γ fun d Γ1 => GO B X lo Γ1 fun l Γ2 => GO B X hi Γ2 fun u Γ3 => SlD d l u fun d' => φ d' Γ3) : GE B X (.Subscript a (.Slice lo hi none p2) pos) Γ φ := fun Hs σ H Q S g =>
  pe_of (pe_slice (r := rSlAny X.K) (SlR.or sl_list (SlR.or sl_tupA sl_str)) pe_W po_W po_W) (h Hs σ H _ S fun d Γ1 v Hs1 H1 p s1 S1 q1 => go_run p Hs1 σ H1 _ S1 fun l Γ2 Hs2 H2 p2 s2 S2 => go_run p2 Hs2 σ H2 _ S2 fun u Γ3 Hs3 H3 p3 s3 S3 => by
    have q1 := (q1.mono s2).mono s3
    have s := s1.trans (s2.trans s3)
    cases q1 with
    | lst r a => exact .inl ⟨_, _, rfl, rdL (rd_up S3.sub r), lst_new S3 (dvs_cut a l u) fun v Hs4 H4 s4 S4 q => g _ Γ3 v Hs4 H4 p3 (s.trans s4) S4 q⟩
    | @tup b ys es r a =>
      refine .inr (.inl ⟨_, _, rfl, rdT (rd_up S3.sub r), fun e => ?_, fun _ => tup_new S3 (dvs_cut a l u) fun v Hs4 H4 s4 S4 q => g _ Γ3 v Hs4 H4 p3 (s.trans s4) S4 q⟩)
      rw [a.len] at e
      have p3 : φ (.tuple (cutD es l u)) Γ3 := p3
      rw [cut_whole e] at p3
      exact g _ Γ3 _ Hs3 H3 p3 s S3 (.tup r a)
    | str z => exact .inr (.inr ⟨z, rfl, p3.1, g _ Γ3 _ Hs3 H3 p3.2 s S3 (.str _)⟩)
    | _ => exact p3.elim)
/-! ### texts -/
section
variable {a b : Expr} {ap : Pos} {φ : PyData → List Sl → Prop}
/-- s.join(ys) -/
theorem ge_join (h : GE B X a Γ fun d Γ1 => ∃ z : Str, d = .str z ∧ GB B X b Γ1 fun d2 Γ2 => ∃ ys : List Str, (d2 = .list (ys.map .str) ∨ d2 = .tuple (ys.map .str)) ∧ (ys.map (·.length)).sum + ys.length * z.length ≤ 16777216 ∧ φ (.str (Txt.join z ys)) Γ2)
    (hs : starEach [b] X.env = [(false, eval b X.env)] := by rfl) (hbase : attributeBase a "join" X.env (eval a X.env) = eval a X.env := by rfl) (hline : (ap.endLine == pos.line) = true := by rfl) : GE B X (.Call (.Attribute a "join" ap) [b] [] pos) Γ φ := fun Hs σ H Q S g =>
  pe_of (pe_join pe_W pe_W hs hbase hline) (h Hs σ H _ S fun d Γ1 v Hs1 H1 ⟨z, e, p⟩ s1 S1 q1 => by
    subst e
    cases q1
    refine ⟨⟨z, rfl⟩, p Hs1 σ H1 _ S1 fun d2 Γ2 w Hs2 H2 ⟨ys, e2, hz, p2⟩ s2 S2 q2 => ?_⟩
    have fin := g _ Γ2 _ Hs2 H2 p2 (s1.trans s2) S2 (.str _)
    rcases e2 with rfl | rfl
    · cases q2 with
      | lst r a =>
        rw [dvs_strs a] at r
        exact ⟨z, _, ys, rfl, rfl, .inl (rdL r), hz, fin⟩
    · cases q2 with
      | tup r a =>
        rw [dvs_strs a] at r
        exact ⟨z, _, ys, rfl, rfl, .inr (rdT r), hz, fin⟩)
/-! ### f'..' -/
end
end
end Px
/-! The rules by the syntax alone: slots found by their names. -/
namespace Px
open PySem PySem.Spec PyProof.Rows L2 Tc
def idxS : List Str → Str → Option Nat
  | [], _ => none
  | y :: r, x => if y == x then some 0 else (idxS r x).map (· + 1)
theorem idxS_ok {x : Str} : ∀ {l : List Str} {i : Nat}, idxS l x = some i → l[i]? = some x
  | y :: r, i, h => by
    unfold idxS at h
    split at h
    · rename_i e
      cases h
      rw [eq_of_beq e] <;> rfl
    · cases q : idxS r x with
      | none => rw [q] at h; cases h
      | some j =>
        rw [q] at h
        cases h
        exact (idxS_ok q : r[j]? = some x)
def Sees (sc : Scope) (x : Str) : Bool := match sc.names.lookup x with
  | some .local | some .cell | some .free => true
  | _ => false
theorem sees_ok {sc : Scope} {x : Str} (h : Sees sc x = true) : Vis sc x := by
  unfold Sees at h
  split at h
  · exact .inl ‹_›
  · exact .inr (.inl ‹_›)
  · exact .inr (.inr ‹_›)
  · cases h
section
variable {B : Bas} {X : Cx} {Γ : List Sl} {E : DE} {pos : Pos} {k : Nat}
theorem name_e {i : Nat} {x : Str} {y : PyData} {φ : PyData → List Sl → Prop} (hN : idxS X.N x = some i) (hΓ : Γ[i]? = some (.d y)) (hv : Sees X.env.scope x = true) (h : φ y Γ) (hd : (x == ("__debug__" : Str)) = false := by decide) (hcd : (x == ("__classdict__" : Str)) = false := by decide) :
    GE B X (.Name x pos) Γ φ := ge_name i (idxS_ok hN) hΓ (sees_ok hv) h hd hcd
theorem name_give {i : Nat} {x : Str} {a : Addr} {ds : List PyData} {φ : PyData → List Sl → Prop} (hN : idxS X.N x = some i) (hΓ : Γ[i]? = some (.own a ds)) (hv : Sees X.env.scope x = true) (h : φ (.list ds) (Γ.set i (.d (.list ds)))) (hd : (x == ("__debug__" : Str)) = false := by decide) (hcd : (x == ("__classdict__" : Str)) = false := by decide) :
    GE B X (.Name x pos) Γ φ := ge_give i (idxS_ok hN) hΓ (sees_ok hv) h hd hcd
theorem name_b {i : Nat} {x : Str} {a : Addr} {ds : List PyData} {φ : PyData → List Sl → Prop} (hN : idxS X.N x = some i) (hΓ : Γ[i]? = some (.own a ds)) (hv : Sees X.env.scope x = true) (h : φ (.list ds) Γ) (hd : (x == ("__debug__" : Str)) = false := by decide) (hcd : (x == ("__classdict__" : Str)) = false := by decide) :
    GB B X (.Name x pos) Γ φ := gb_own i (idxS_ok hN) hΓ (sees_ok hv) h hd hcd
theorem name_q {i : Nat} {x : Str} {a : Addr} {ds : List PyData} {φ : List PyData → List Sl → Prop} (hN : idxS X.N x = some i) (hΓ : Γ[i]? = some (.own a ds)) (hv : Sees X.env.scope x = true) (h : φ ds Γ) (hd : (x == ("__debug__" : Str)) = false := by decide) (hcd : (x == ("__classdict__" : Str)) = false := by decide) :
    GQ B X true (.Name x pos) Γ φ := gq_own i (idxS_ok hN) hΓ (sees_ok hv) h hd hcd
theorem set_e (c : Bod X k) {i : Nat} {x : Str} {e : Expr} {pos' : Pos} (hi : idxS X.N x = some i) (hx : X.env.scope.names.lookup x = some .local) (h : GE B X e Γ fun d Γ1 => Nat.ble (i + 1) Γ1.length = true ∧ E.nx (Γ1.set i (.d d)))
    (hs : swapsWith e (some (.Name x pos')) pos.line X.env = pure false := by rfl) : G1 B X (.Assign [.Name x pos'] e pos) Γ E := g1_set c i (idxS_ok hi) (.inl hx) (fun Hs σ H Q S g => h Hs σ H Q S fun d Γ' v Hs' H' p => g d Γ' v Hs' H' ⟨Nat.le_of_ble_eq_true p.1, p.2⟩) hs (.inr hx)
theorem set_cell (c : Bod X k) {i : Nat} {x : Str} {e : Expr} {pos' : Pos} (hi : idxS X.N x = some i) (hx : X.env.scope.names.lookup x = some .cell) (h : GE B X e Γ fun d Γ1 => Nat.ble (i + 1) Γ1.length = true ∧ E.nx (Γ1.set i (.d d)))
    (hs : swapsWith e (some (.Name x pos')) pos.line X.env = pure false := by rfl) (hf : X.fn x = true := by rfl) : G1 B X (.Assign [.Name x pos'] e pos) Γ E := g1_set c i (idxS_ok hi) (.inr hx) (fun Hs σ H Q S g => h Hs σ H Q S fun d Γ' v Hs' H' p => g d Γ' v Hs' H' ⟨Nat.le_of_ble_eq_true p.1, p.2⟩) hs (.inl hf)
theorem set_l (c : Bod X k) {i : Nat} {x : Str} {e : Expr} {pos' : Pos} (hi : idxS X.N x = some i) (hx : X.env.scope.names.lookup x = some .local) (h : GF B X e Γ fun ds Γ1 => Nat.ble (i + 1) Γ1.length = true ∧ ∀ a, Alone Γ1 a → E.nx (Γ1.set i (.own a ds)))
    (hs : swapsWith e (some (.Name x pos')) pos.line X.env = pure false := by rfl) : G1 B X (.Assign [.Name x pos'] e pos) Γ E := g1_setL c i (idxS_ok hi) (.inl hx) (fun Hs σ H Q S g => h Hs σ H Q S fun d Γ' v Hs' H' vs p => g d Γ' v Hs' H' vs ⟨Nat.le_of_ble_eq_true p.1, p.2⟩) hs (.inr hx)
end
/-! ### what the data say -/
section
variable {k : PyData → Prop} {q : Bool → Prop} {n : Int → Prop} {i j : Int} {x y : Str} {xs ys : List PyData}
theorem add_ii (h : k (.int (i + j))) : AddD (.int i) (.int j) k := h
theorem add_tt (l : xs.length + ys.length ≤ sizeLine) (h : k (.tuple (xs ++ ys))) : AddD (.tuple xs) (.tuple ys) k := ⟨l, h⟩
theorem add_ll (l : xs.length + ys.length ≤ sizeLine) (h : k (.list (xs ++ ys))) : AddD (.list xs) (.list ys) k := ⟨l, h⟩
theorem int0_i {f : Int → Int → Int} (h : k (.int (f i j))) : Int0 f (.int i) (.int j) k := h
theorem mul_ii (c : MulOk i j) (h : k (.int (i * j))) : MulD (.int i) (.int j) k := ⟨c, h⟩
theorem ord_i {p : Int → Int → Bool} (h : q (p i j)) : OrdD p (.int i) (.int j) q := h
theorem eq_p {d1 d2 : PyData} (p : plain2 d1 d2 = true) (h : q (PyData.eqv d1 d2)) : EqD d1 d2 q := ⟨.inl p, h⟩
theorem ne_p {d1 d2 : PyData} (p : plain2 d1 d2 = true) (h : q (!PyData.eqv d1 d2)) : NeD d1 d2 q := ⟨.inl p, h⟩
theorem len_l (h : n xs.length) : LenD (.list xs) n := h
theorem len_t (h : n xs.length) : LenD (.tuple xs) n := h
theorem ix_l {d : PyData} (e : atD xs i = some d) (h : k d) : IxD (.list xs) (.int i) k := ⟨d, e, h⟩
theorem seq_l {K : List PyData → Prop} (h : K xs) : SeqD (.list xs) K := h
theorem seq_t {K : List PyData → Prop} (h : K xs) : SeqD (.tuple xs) K := h
theorem intf_i (h : k (.int i)) : IntF (.int i) k := h
theorem sl_t {lo hi : Option Int} (h : k (.tuple (cutD xs lo hi))) : SlD (.tuple xs) lo hi k := h
end
theorem len_ok {α : Type} {l : List α} (h : Nat.ble l.length 1000 = true) : l.length ≤ sizeLine := Nat.le_trans (Nat.le_of_ble_eq_true h) (by decide)
theorem isD_int (d : PyData) : isD "int" d = (match d with | .int _ => true | .bool _ => true | _ => false) := ty_int d
theorem isD_bool (d : PyData) : isD "bool" d = (match d with | .bool _ => true | _ => false) := ty_bool d
theorem isD_tuple (d : PyData) : isD "tuple" d = (match d with | .tuple _ => true | _ => false) := ty_tuple d
theorem isD_str (d : PyData) : isD "str" d = (match d with | .str _ => true | _ => false) := ty_str d
end Px
namespace Px
open PySem PySem.Spec PyProof.Rows L2 Tc
/-- the built-ins that are called are Python's own -/
structure Gls (mg : Str → Option Value) : Prop where
  len : mg "len" = none
  int : mg "int" = none
  bool : mg "bool" = none
  str : mg "str" = none
  tuple : mg "tuple" = none
  list : mg "list" = none
  isinstance : mg "isinstance" = none
  abs : mg "abs" = none
  divmod : mg "divmod" = none
  range : mg "range" = none
  repr : mg "repr" = none
  min : mg "min" = none
  max : mg "max" = none
  all : mg "all" = none
  any : mg "any" = none
  sum : mg "sum" = none
  sorted : mg "sorted" = none
  zip : mg "zip" = none
  enumerate : mg "enumerate" = none
  reversed : mg "reversed" = none
  set : mg "set" = none
/-- the same surroundings -/
structure SameX (X : Cx) (P : Program) (w : World) (K : PySem.W.Frag) (mg : Str → Option Value) (base : Heap) : Prop where
  p : X.prog = P
  w : X.w = w
  k : X.K = K
  m : X.mg = mg
  b : X.base = base
section
variable {B : Bas} {X : Cx} {Γ : List Sl} {E : DE} {pos : Pos} {k j n : Nat} {P : Program} {w : World} {K : PySem.W.Frag} {mg : Str → Option Value} {base : Heap}
theorem num_e {x : Str} {n : Int} {φ : PyData → List Sl → Prop} (hX : SameX X P w K mg base) (hm : ∃ t, mg x = some (.int n t)) (hg : Gl X x) (h : φ (.int n) Γ) (hd : (x == ("__debug__" : Str)) = false) : GE B X (.Name x pos) Γ φ := ge_num (by rw [hX.m]; exact hm) hg h hd
theorem call_e {x : Str} {p : Pos} {e : Expr} {es : List Expr} {ps : List Str} {pre : List PyData → Prop} {f : List PyData → Out} {ψ : Addr → PyData → List Sl → Prop} {φ : PyData → List Sl → Prop} (hX : SameX X P w K mg base) (F : Call P w K mg base (L2.CX P w) j x ps (spF n pre f)) (c : Cxt X k) (hj : Nat.ble j k = true) (hg : Gl X x) (ex : Exc B X ψ)
    (h : GA B X (e :: es) Γ fun ds Γ1 => ds.length = n ∧ pre ds ∧ (f ds).to (fun d => φ d Γ1) (fun C d => ψ C d Γ1)) (hdb : (x == ("__debug__" : Str)) = false)
    (he : starEach (e :: es) X.env = (false, eval e X.env) :: starEach es X.env) (hpl : (backTo pos (starEach es X.env)).any (·.1) = false) : GE B X (.Call (.Name x p) (e :: es) [] pos) Γ φ := by
  obtain ⟨rfl, rfl, rfl, rfl, rfl⟩ := hX
  exact ge_call F c (Nat.le_of_ble_eq_true hj) hg ex h hdb he hpl
theorem pail_e {i : Nat} {x y : Str} {p py : Pos} {es : List Expr} {ps : List Str} {a : Addr} {ms0 : List PyData} {pre : List PyData → List PyData → Prop} {R : List PyData → List PyData → Out → List PyData → Prop} {ψ : Addr → PyData → List Sl → Prop} {φ : PyData → List Sl → Prop} (hX : SameX X P w K mg base) (F : Call P w K mg base (L2.CX P w) j x ps (spP n pre R)) (c : Cxt X k) (hj : Nat.ble j k = true) (hg : Gl X x) (ex : Exc B X ψ)
    (hN : idxS X.N y = some i) (hv : Sees X.env.scope y = true) (hΓ : Γ[i]? = some (.own a ms0))
    (h : GA B X es Γ fun ds Γ1 => ∃ ms, Γ1[i]? = some (.own a ms) ∧ ds.length = n ∧ pre ms ds ∧ ∀ o ms', R ms ds o ms' → o.to (fun d => φ d (Γ1.set i (.own a ms'))) (fun C d => ψ C d (Γ1.set i (.own a ms')))) (hdb : (x == ("__debug__" : Str)) = false)
    (hd : (y == ("__debug__" : Str)) = false) (hcd : (y == ("__classdict__" : Str)) = false)
    (he : starEach (.Name y py :: es) X.env = (false, eval (.Name y py) X.env) :: starEach es X.env) (hpl : (backTo pos (starEach es X.env)).any (·.1) = false) : GE B X (.Call (.Name x p) (.Name y py :: es) [] pos) Γ φ := by
  obtain ⟨rfl, rfl, rfl, rfl, rfl⟩ := hX
  exact ge_pail i F c (Nat.le_of_ble_eq_true hj) hg ex (idxS_ok hN) (sees_ok hv) hΓ h hdb hd hcd he hpl
end
/-- what raising asks of the class -/
structure Rz (K : PySem.W.Frag) (mg : Str → Option Value) (x : Str) (C : Addr) : Prop where
  nw : NewAble K mg x "given" C
  ex : PySem.W.subIn K (.ref C) (.type "BaseException") = some true
  ty : PySem.W.typeIn K (.ref C) = some (.type "type")
theorem raise_e {B : Bas} {X : Cx} {Γ : List Sl} {E : DE} {pos : Pos} {k : Nat} {P : Program} {w : World} {K : PySem.W.Frag} {mg : Str → Option Value} {base : Heap} {x : Str} {p : Pos} {e : Expr} {C : Addr} {ψ : Addr → PyData → List Sl → Prop} {pos' : Pos} (hX : SameX X P w K mg base) (R : Rz K mg x C) (c : Bod X k) (hg : Gl X x) (ex : Exc B X ψ)
    (h : GE B X e Γ fun d Γ1 => ψ C d Γ1) (hs : starEach [e] X.env = (false, eval e X.env) :: starEach [] X.env) (hdb : (x == ("__debug__" : Str)) = false) : G1 B X (.Raise (some (.Call (.Name x p) [e] [] pos')) none pos) Γ E := by
  obtain ⟨rfl, rfl, rfl, rfl, rfl⟩ := hX
  exact g1_raise c.calm c.toCxt R.nw R.ex R.ty hg ex h hs hdb
end Px
namespace Px
open PySem PySem.Spec PyProof.Rows L2 Tc
section
variable {B : Bas} {X : Cx} {Γ : List Sl} {pos : Pos}
theorem isi_int {x y : Str} {p py : Pos} {a : Expr} {φ : PyData → List Sl → Prop} (hx : x = "isinstance") (hy : y = "int") (hg : Gl X x) (hm : X.mg x = none) (gy : Gl X y) (my : X.mg y = none) (he : starEach [a, .Name y py] X.env = (false, eval a X.env) :: starEach [.Name y py] X.env) (he2 : starEach [.Name y py] X.env = (false, eval (.Name y py) X.env) :: starEach [] X.env) (hpl : (backTo pos (starEach [.Name y py] X.env)).any (·.1) = false) (h : GB B X a Γ fun d Γ1 => φ (.bool (isD "int" d)) Γ1) : GE B X (.Call (.Name x p) [a, .Name y py] [] pos) Γ φ := by
  subst hy
  exact ge_isi (T := "int") hx hg hm gy my (by decide +kernel) (by decide) h (by decide) (by decide) he he2 hpl
theorem isi_bool {x y : Str} {p py : Pos} {a : Expr} {φ : PyData → List Sl → Prop} (hx : x = "isinstance") (hy : y = "bool") (hg : Gl X x) (hm : X.mg x = none) (gy : Gl X y) (my : X.mg y = none) (he : starEach [a, .Name y py] X.env = (false, eval a X.env) :: starEach [.Name y py] X.env) (he2 : starEach [.Name y py] X.env = (false, eval (.Name y py) X.env) :: starEach [] X.env) (hpl : (backTo pos (starEach [.Name y py] X.env)).any (·.1) = false) (h : GB B X a Γ fun d Γ1 => φ (.bool (isD "bool" d)) Γ1) : GE B X (.Call (.Name x p) [a, .Name y py] [] pos) Γ φ := by
  subst hy
  exact ge_isi (T := "bool") hx hg hm gy my (by decide +kernel) (by decide) h (by decide) (by decide) he he2 hpl
theorem isi_tuple {x y : Str} {p py : Pos} {a : Expr} {φ : PyData → List Sl → Prop} (hx : x = "isinstance") (hy : y = "tuple") (hg : Gl X x) (hm : X.mg x = none) (gy : Gl X y) (my : X.mg y = none) (he : starEach [a, .Name y py] X.env = (false, eval a X.env) :: starEach [.Name y py] X.env) (he2 : starEach [.Name y py] X.env = (false, eval (.Name y py) X.env) :: starEach [] X.env) (hpl : (backTo pos (starEach [.Name y py] X.env)).any (·.1) = false) (h : GB B X a Γ fun d Γ1 => φ (.bool (isD "tuple" d)) Γ1) : GE B X (.Call (.Name x p) [a, .Name y py] [] pos) Γ φ := by
  subst hy
  exact ge_isi (T := "tuple") hx hg hm gy my (by decide +kernel) (by decide) h (by decide) (by decide) he he2 hpl
theorem isi_str {x y : Str} {p py : Pos} {a : Expr} {φ : PyData → List Sl → Prop} (hx : x = "isinstance") (hy : y = "str") (hg : Gl X x) (hm : X.mg x = none) (gy : Gl X y) (my : X.mg y = none) (he : starEach [a, .Name y py] X.env = (false, eval a X.env) :: starEach [.Name y py] X.env) (he2 : starEach [.Name y py] X.env = (false, eval (.Name y py) X.env) :: starEach [] X.env) (hpl : (backTo pos (starEach [.Name y py] X.env)).any (·.1) = false) (h : GB B X a Γ fun d Γ1 => φ (.bool (isD "str" d)) Γ1) : GE B X (.Call (.Name x p) [a, .Name y py] [] pos) Γ φ := by
  subst hy
  exact ge_isi (T := "str") hx hg hm gy my (by decide +kernel) (by decide) h (by decide) (by decide) he he2 hpl
theorem gt_lele {a b c : Expr} {φ : Bool → List Sl → Prop} (hm : lastMarks [.LtE, .LtE] [b, c] = false) (h : GE B X a Γ fun d1 Γ1 => GE B X b Γ1 fun d2 Γ2 => LeD d1 d2 fun t => if t = true then GE B X c Γ2 fun d3 Γ3 => LeD d2 d3 fun u => φ u Γ3 else φ false Γ2) : GT B X (.Compare a [.LtE, .LtE] [b, c] pos) Γ φ := gt_chain op_le op_le LeD LeD sem_ord sem_ord h hm
theorem ge_lele {a b c : Expr} {φ : PyData → List Sl → Prop} (hm : lastMarks [.LtE, .LtE] [b, c] = false) (h : GE B X a Γ fun d1 Γ1 => GE B X b Γ1 fun d2 Γ2 => LeD d1 d2 fun t => if t = true then GE B X c Γ2 fun d3 Γ3 => LeD d2 d3 fun u => φ (.bool u) Γ3 else φ (.bool false) Γ2) : GE B X (.Compare a [.LtE, .LtE] [b, c] pos) Γ φ := ge_chain op_le op_le LeD LeD sem_ord sem_ord h hm
end
end Px
/-! Sequences that stay: two walked at once; tuples that are written at a module's top. -/
namespace Px
open PySem PySem.Spec PyProof.Rows L2 Tc Tz
/-- while the slots keep what is asked, the items stand there -/
def Pers (K : PySem.W.Frag) (keep : List Sl → Prop) (k : Bool) (Hs1 : Hp) (a : Addr) (ds : List PyData) : Prop := ∀ (B : Bas) (Hs : Hp) (σ : L2.St) (H : Hp) (Γ : List Sl), keep Γ → Same Hs1 Hs → Sx B Hs σ H Γ → ∃ vs, SqX k K H a vs ∧ DvAll Hs vs ds
theorem Pers.mono {K : PySem.W.Frag} {keep : List Sl → Prop} {k : Bool} {Hs1 Hs2 : Hp} {a : Addr} {ds : List PyData} (p : Pers K keep k Hs1 a ds) (s : Same Hs1 Hs2) : Pers K keep k Hs2 a ds := fun B Hs σ H Γ kp s2 S => p B Hs σ H Γ kp (s.trans s2) S
def GS (B : Bas) (X : Cx) (k : Bool) (e : Expr) (Γ : List Sl) (φ : List PyData → (List Sl → Prop) → List Sl → Prop) : Prop := ∀ (Hs : Hp) (σ : L2.St) (H : Hp) (Q : VK), Sx B Hs σ H Γ →
  (∀ ds keep Γ' a Hs' H', φ ds keep Γ' → Same Hs Hs' → Sx B Hs' σ H' Γ' → Pers X.K keep k Hs' a ds → Q (.ref a) H') → teW X e σ H Q
/-- a tuple of plain things that is written in the program -/
structure Writ (K : PySem.W.Frag) (mg : Str → Option Value) (x : Str) (a : Addr) (ds : List PyData) : Prop where
  gm : mg x = some (.ref a)
  sq : ∃ vs, (∀ H, SqT K H a vs) ∧ ∀ H, DvAll H vs ds
section
variable {B : Bas} {X : Cx} {Γ : List Sl} {pos : Pos} {E : DE} {P : Program} {w : World} {K : PySem.W.Frag} {mg : Str → Option Value} {base : Heap} {tg : Expr}
theorem gs_list {e : Expr} {φ : List PyData → (List Sl → Prop) → List Sl → Prop} (h : GE B X e Γ fun d Γ1 => ∃ ds, d = .list ds ∧ φ ds (fun _ => True) Γ1) : GS B X true e Γ φ := fun Hs σ H Q S g => h Hs σ H Q S fun d Γ1 v Hs1 H1 ⟨ds, e, p⟩ s S1 q => by
  subst e
  cases q with
  | lst r a => exact g ds _ Γ1 _ Hs1 H1 p s S1 fun B2 Hs2 σ2 H2 Γ2 _ s2 S2 => ⟨_, rdL (rd_up S2.sub (rd_up s2 r)), a.mono s2⟩
theorem gs_tup {e : Expr} {φ : List PyData → (List Sl → Prop) → List Sl → Prop} (h : GE B X e Γ fun d Γ1 => ∃ ds, d = .tuple ds ∧ φ ds (fun _ => True) Γ1) : GS B X false e Γ φ := fun Hs σ H Q S g => h Hs σ H Q S fun d Γ1 v Hs1 H1 ⟨ds, e, p⟩ s S1 q => by
  subst e
  cases q with
  | tup r a => exact g ds _ Γ1 _ Hs1 H1 p s S1 fun B2 Hs2 σ2 H2 Γ2 _ s2 S2 => ⟨_, rdT (rd_up S2.sub (rd_up s2 r)), a.mono s2⟩
theorem gs_writ {x : Str} {a : Addr} {ds : List PyData} {φ : List PyData → (List Sl → Prop) → List Sl → Prop} (hX : SameX X P w K mg base) (W : Writ K mg x a ds) (hg : Gl X x) (h : φ ds (fun _ => True) Γ) (hd : (x == ("__debug__" : Str)) = false) : GS B X false (.Name x pos) Γ φ := fun Hs σ H Q S g => by
  obtain ⟨rfl, rfl, rfl, rfl, rfl⟩ := hX
  obtain ⟨vs, sq, dv⟩ := W.sq
  exact pe_of (pe_glob (v := .ref a) hg W.gm rfl hd) (g ds _ Γ a Hs H h (Same.refl _) S fun B2 Hs2 σ2 H2 Γ2 _ _ _ => ⟨vs, sq H2, dv Hs2⟩)
theorem pers_q {k : Bool} {Hs H : Hp} {σ : L2.St} {keep : List Sl → Prop} {a : Addr} {ds : List PyData} (p : Pers X.K keep k Hs a ds) (S : Sx B Hs σ H Γ) (kp : keep Γ) : ∃ vs, SqX k X.K H a vs ∧ DvAll Hs vs ds := p B Hs σ H Γ kp (Same.refl _) S
/-- a sequence that stays, looked at -/
theorem gq_ofS {k : Bool} {e : Expr} {φ : List PyData → List Sl → Prop} (h : GS B X k e Γ fun ds keep Γ1 => keep Γ1 ∧ φ ds Γ1) : GQ B X k e Γ φ := fun Hs σ H Q S g => h Hs σ H Q S fun ds keep Γ1 a Hs1 H1 ⟨kp, p⟩ s S1 pr => by
  obtain ⟨vs, q, d⟩ := pers_q pr S1 kp
  refine g ds Γ1 a vs Hs1 H1 p s S1 ?_ d
  cases k with
  | true => exact q
  | false => exact q
/-! ### zip -/
theorem its_zip {k kk : Bool} {K : PySem.W.Frag} {keep keep2 : List Sl → Prop} {Hs : Hp} {a b : Addr} {ds es : List PyData} (p : Pers K keep k Hs a ds) (q : Pers K keep2 kk Hs b es) {n : Nat} (hn : n = min ds.length es.length) :
    Its (fun Γ => keep Γ ∧ keep2 Γ) Hs (Itm K k kk a b) n (fun i => .tuple [nth ds i, nth es i]) := by
  subst hn
  refine ⟨fun H => ∃ us vs, SqX k K H a us ∧ SqX kk K H b vs ∧ us.length = ds.length ∧ vs.length = es.length, (Itm K k kk a b).yld, ⟨?_, ?_, fun _ _ _ _ _ _ y => y⟩, ?_, ?_⟩
  · rintro i H hi ⟨us, vs, q1, q2, l1, l2⟩
    exact ⟨us, vs, us[i]'(by omega), vs[i]'(by omega), q1, q2, by simp [show i < us.length by omega], by simp [show i < vs.length by omega]⟩
  · rintro H ⟨us, vs, q1, q2, l1, l2⟩
    exact ⟨us, vs, q1, q2, by omega⟩
  · rintro B2 Hs2 σ H Γ ⟨k1, k2⟩ s S
    obtain ⟨us, q1, d1⟩ := p B2 Hs2 σ H Γ k1 s S
    obtain ⟨vs, q2, d2⟩ := q B2 Hs2 σ H Γ k2 s S
    exact ⟨us, vs, q1, q2, d1.len, d2.len⟩
  · rintro B2 i Hs2 σ H Γ x H' hi ⟨k1, k2⟩ s S ⟨c, y, z, rfl, hc, rfl, g1, g2⟩
    obtain ⟨us, q1, d1⟩ := p B2 Hs2 σ H Γ k1 s S
    obtain ⟨vs, q2, d2⟩ := q B2 Hs2 σ H Γ k2 s S
    obtain ⟨d, e1, v1⟩ := dvs_get' d1 (g1 us q1)
    obtain ⟨e, e2, v2⟩ := dvs_get' d2 (g2 vs q2)
    obtain ⟨kk2, T⟩ := S.new (o := .tup [y, z]) hc
    refine ⟨_, kk2, T, ?_⟩
    show Dv _ _ (.tuple [nth ds i, nth es i])
    rw [nth_at e1, nth_at e2]
    exact .tup (.inl upd_same) (.cons (v1.mono kk2) (.cons (v2.mono kk2) .nil))
theorem gi_zip (k kk : Bool) {x : Str} {p tpos : Pos} {e f : Expr} {elts : List Expr} {n1 : Nat} {φ : Nat → (Nat → PyData) → (List Sl → Prop) → List Sl → Prop} (hx : x = "zip") (hg : Gl X x) (hm : X.mg x = none)
    (hs : starEach [e, f] X.env = (false, eval e X.env) :: starEach [f] X.env) (hs2 : starEach [f] X.env = (false, eval f X.env) :: starEach [] X.env) (hpl : (backTo pos (starEach [f] X.env)).any (·.1) = false)
    (h : GS B X k e Γ fun ds keep Γ1 => GS B X kk f Γ1 fun es keep2 Γ2 => keep Γ2 ∧ keep2 Γ2 ∧ φ (min ds.length es.length) (fun i => .tuple [nth ds i, nth es i]) (fun Γ => keep Γ ∧ keep2 Γ) Γ2) : GI B X (.Tuple elts n1 tpos) (.Call (.Name x p) [e, f] [] pos) Γ φ := by
  subst hx
  intro Hs σ H R S g
  have args : ∀ (Q : List V → Hp → Prop), (∀ (a b : Addr) ds es keep keep2 Γ2 Hs2 H2, Same Hs Hs2 → Sx B Hs2 σ H2 Γ2 → Pers X.K keep k Hs2 a ds → Pers X.K keep2 kk Hs2 b es → keep Γ2 → keep2 Γ2 → φ (min ds.length es.length) (fun i => .tuple [nth ds i, nth es i]) (fun Γ => keep Γ ∧ keep2 Γ) Γ2 → Q [.ref a, .ref b] H2) → taW X [e, f] σ H Q := fun Q fin =>
    pa_of (pa_cons pe_W (pa_cons pe_W pa_nil hs2) hs) (h Hs σ H _ S fun ds keep Γ1 a Hs1 H1 p1 s1 S1 pr1 => p1 Hs1 σ H1 _ S1 fun es keep2 Γ2 b Hs2 H2 ⟨k1, k2, p2⟩ s2 S2 pr2 => fin a b ds es keep keep2 Γ2 Hs2 H2 (s1.trans s2) S2 (pr1.mono s2) pr2 k1 k2 p2)
  cases k with
  | true =>
    cases kk with
    | true => exact pi_of (RZ.pi_zipA hg hm pa_W hs hpl) (args _ fun a b ds es keep keep2 Γ2 Hs2 H2 s2 S2 pr1 pr2 k1 k2 p2 => by
        obtain ⟨us, q1, d1⟩ := pers_q pr1 S2 k1
        obtain ⟨vs, q2, d2⟩ := pers_q pr2 S2 k2
        exact ⟨a, b, us, vs, rfl, .inl ⟨q1, q2, g _ _ _ Γ2 _ Hs2 H2 p2 s2 S2 (its_zip (k := true) (kk := true) pr1 pr2 rfl)⟩⟩)
    | false => exact pi_of (pi_zipM hg hm pa_W hs hpl) (args _ fun a b ds es keep keep2 Γ2 Hs2 H2 s2 S2 pr1 pr2 k1 k2 p2 => by
        obtain ⟨us, q1, d1⟩ := pers_q pr1 S2 k1
        obtain ⟨vs, q2, d2⟩ := pers_q pr2 S2 k2
        exact ⟨true, false, a, b, us, vs, rfl, by decide, q1, q2, g _ _ _ Γ2 _ Hs2 H2 p2 s2 S2 (its_zip pr1 pr2 rfl)⟩)
  | false =>
    cases kk with
    | true => exact pi_of (pi_zipM hg hm pa_W hs hpl) (args _ fun a b ds es keep keep2 Γ2 Hs2 H2 s2 S2 pr1 pr2 k1 k2 p2 => by
        obtain ⟨us, q1, d1⟩ := pers_q pr1 S2 k1
        obtain ⟨vs, q2, d2⟩ := pers_q pr2 S2 k2
        exact ⟨false, true, a, b, us, vs, rfl, by decide, q1, q2, g _ _ _ Γ2 _ Hs2 H2 p2 s2 S2 (its_zip pr1 pr2 rfl)⟩)
    | false => exact pi_of (RZ.pi_zipA hg hm pa_W hs hpl) (args _ fun a b ds es keep keep2 Γ2 Hs2 H2 s2 S2 pr1 pr2 k1 k2 p2 => by
        obtain ⟨us, q1, d1⟩ := pers_q pr1 S2 k1
        obtain ⟨vs, q2, d2⟩ := pers_q pr2 S2 k2
        exact ⟨a, b, us, vs, rfl, .inr ⟨q1, q2, g _ _ _ Γ2 _ Hs2 H2 p2 s2 S2 (its_zip (k := false) (kk := false) pr1 pr2 rfl)⟩⟩)
end
end Px
/-! Comprehensions that only look; further operators. -/
namespace Px
open PySem PySem.Spec PyProof.Rows L2 Tc Tz
theorem clr_clr (Γ : List Sl) (vs : List Nat) : clr (clr Γ vs) vs = clr Γ vs := by
  refine List.ext_getElem? fun j => ?_
  by_cases e : j ∈ vs
  · by_cases l : j < Γ.length
    · have h1 : ∃ s, (clr (clr Γ vs) vs)[j]? = some s := ⟨_, List.getElem?_eq_getElem (by rw [clr_len, clr_len]; exact l)⟩
      have h2 : ∃ s, (clr Γ vs)[j]? = some s := ⟨_, List.getElem?_eq_getElem (by rw [clr_len]; exact l)⟩
      obtain ⟨s, h1⟩ := h1
      obtain ⟨t, h2⟩ := h2
      rw [h1, h2, clr_in e h1, clr_in e h2]
    · rw [List.getElem?_eq_none (by rw [clr_len, clr_len]; omega), List.getElem?_eq_none (by rw [clr_len]; omega)]
  · exact clr_out e
section
variable {B : Bas} {X : Cx} {Γ : List Sl} {pos : Pos} {k : Nat}
/-- [elt for t in iter if ..] that leaves the slots as they are: p tells which items, F what of them -/
theorem gf_look {elt t iter : Expr} {ifs : List Expr} {scope : Scope} {own : List (Str × Nat)} {φ : List PyData → List Sl → Prop} (calm : X.calm = true) (nd : X.N.Nodup) (ok : blkC X.N X.env.scope scope own = true)
    (hs : ∀ x, foldedSetIterable iter X.env x = pure x)
    (h : GI B X t iter Γ fun n f keep Γ1 => keep (clr Γ1 (own.map (·.2))) ∧ n ≤ sizeLine ∧ ∃ (p : Nat → Bool) (F : Nat → PyData),
      (∀ i, i < n → ∀ B', Blk X scope fun Y => GC B' Y (own.map (·.2)) t (f i) (clr Γ1 (own.map (·.2))) fun Γ2 => Blk X scope fun Y => GP B' Y ifs Γ2 fun b Γ3 => b = p i ∧ if b = true then Blk X scope fun Y => GE B' Y elt Γ3 fun d Γ4 => d = F i ∧ clr Γ4 (own.map (·.2)) = clr Γ1 (own.map (·.2)) else clr Γ3 (own.map (·.2)) = clr Γ1 (own.map (·.2))) ∧
      φ (((List.range n).filter p).map F) (clr Γ1 (own.map (·.2)))) : GF B X (.ListComp elt [⟨t, iter, ifs, 0⟩] scope pos) Γ φ := by
  refine gf_lc calm nd (blkOk_by ok) (hs := hs) fun Hs σ H R S g => h Hs σ H R S fun n f keep Γ1 J Hs1 H1 ⟨kp, hn, p, F, step, fin⟩ s S1 it => g n f keep Γ1 J Hs1 H1 ?_ s S1 it
  refine ⟨fun i acc Γ' => Γ' = clr Γ1 (own.map (·.2)) ∧ acc = ((List.range i).filter p).map F, ⟨rfl, rfl⟩, fun i acc Γ' _ ⟨e, _⟩ => e ▸ kp, ?_, ?_⟩
  · rintro i acc Γ' hi ⟨rfl, rfl⟩ B' s0 H0 C cl fp
    rw [clr_clr]
    intro Hs2 σ2 H2 v Q S2 dv g2
    refine step i hi B' s0 H0 C cl fp Hs2 σ2 H2 v Q S2 dv fun Γ2 Hs3 σ3 H3 p2 s3 S3 w3 => g2 Γ2 Hs3 σ3 H3 (fun s0 H0 C cl fp => ?_) s3 S3 w3
    intro Hs4 σ4 H4 Q4 S4 g4
    refine p2 s0 H0 C cl fp Hs4 σ4 H4 Q4 S4 fun b Γ3 Hs5 H5 ⟨eb, p3⟩ s5 S5 => g4 b Γ3 Hs5 H5 ?_ s5 S5
    have len : (((List.range i).filter p).map F).length < sizeLine := by
      rw [List.length_map]
      exact Nat.lt_of_le_of_lt (List.length_filter_le _ _) (by rw [List.length_range]; omega)
    cases b with
    | false =>
      refine iteF ⟨p3, ?_⟩
      rw [List.range_succ, List.filter_append, List.map_append, show [i].filter p = [] by simp [← eb]]
      simp
    | true =>
      have p3 : Blk X scope fun Y => GE B' Y elt Γ3 fun d Γ4 => d = F i ∧ clr Γ4 (own.map (·.2)) = clr Γ1 (own.map (·.2)) := p3
      refine iteT fun s0 H0 C cl fp Hs6 σ6 H6 Q6 S6 g6 => p3 s0 H0 C cl fp Hs6 σ6 H6 Q6 S6 fun d Γ4 v7 Hs7 H7 ⟨ed, ec⟩ s7 S7 q7 => g6 d Γ4 v7 Hs7 H7 ⟨len, ec, ?_⟩ s7 S7 q7
      rw [List.range_succ, List.filter_append, List.map_append, show [i].filter p = [i] by simp [← eb], ed]
      rfl
  · rintro acc Γ' ⟨rfl, rfl⟩
    exact fin
end
theorem range_items (ds : List PyData) : (List.range ds.length).map (nth ds) = ds := by
  refine List.ext_getElem? fun j => ?_
  rw [List.getElem?_map]
  by_cases l : j < ds.length
  · rw [List.getElem?_range l]
    have e : ds[j]? = some ds[j] := List.getElem?_eq_getElem l
    rw [e]
    show some (nth ds j) = _
    rw [nth_at e]
  · rw [List.getElem?_eq_none (by rw [List.length_range]; omega), List.getElem?_eq_none (by omega)] <;> rfl
theorem range_nth (p : PyData → Bool) (F : PyData → PyData) (ds : List PyData) : ((List.range ds.length).filter fun i => p (nth ds i)).map (fun i => F (nth ds i)) = (ds.filter p).map F := by
  have e : ((List.range ds.length).filter fun i => p (nth ds i)).map (fun i => F (nth ds i)) = (((List.range ds.length).map (nth ds)).filter p).map F := by
    rw [List.filter_map, List.map_map]
    rfl
  rw [e, range_items]
theorem range_map (F : PyData → PyData) (ds : List PyData) : ((List.range ds.length).filter fun _ => true).map (fun i => F (nth ds i)) = ds.map F := by
  have z := range_nth (fun _ => true) F ds
  rw [show ds.filter (fun _ => true) = ds from List.filter_eq_self.mpr fun _ _ => rfl] at z
  exact z
section
variable {B : Bas} {X : Cx} {Γ : List Sl} {pos : Pos} {k : Nat} {a b : Expr} {φ : PyData → List Sl → Prop}
theorem ge_neg (h : GE B X a Γ fun d Γ1 => ∃ i : Int, d = .int i ∧ φ (.int (-i)) Γ1) : GE B X (.UnaryOp .USub a pos) Γ φ := fun Hs σ H Q S g =>
  pe_of (pe_un un_neg pe_W) (h Hs σ H _ S fun d Γ1 v Hs1 H1 ⟨i, e, p⟩ s S1 q => by
    subst e
    cases q
    exact ⟨i, rfl, g _ Γ1 _ Hs1 H1 p s S1 (.int _)⟩)
/-- s.find(t) -/
theorem ge_find {ap : Pos} (h : GE B X a Γ fun d Γ1 => ∃ z : Str, d = .str z ∧ GE B X b Γ1 fun d2 Γ2 => ∃ y : Str, d2 = .str y ∧ φ (.int (Txt.find z y)) Γ2)
    (hs : starEach [b] X.env = [(false, eval b X.env)]) (hbase : attributeBase a "find" X.env (eval a X.env) = eval a X.env) (hline : (ap.endLine == pos.line) = true) : GE B X (.Call (.Attribute a "find" ap) [b] [] pos) Γ φ := fun Hs σ H Q S g =>
  pe_of (pe_m1 PySem.F.slot_str_find PySem.F.type_str_find mt_find pe_W pe_W hs hbase hline) (h Hs σ H _ S fun d Γ1 v Hs1 H1 ⟨z, e, p⟩ s1 S1 q1 => by
    subst e
    cases q1
    refine ⟨⟨z, rfl⟩, p Hs1 σ H1 _ S1 fun d2 Γ2 w Hs2 H2 ⟨y, e2, p2⟩ s2 S2 q2 => ?_⟩
    subst e2
    cases q2
    exact ⟨z, y, rfl, rfl, g _ Γ2 _ Hs2 H2 p2 (s1.trans s2) S2 (.int _)⟩)
/-- x in a sequence of plain things -/
def plainD : PyData → Bool
  | .none | .bool _ | .int _ | .str _ => true
  | _ => false
theorem plain_v {H : Hp} {v : V} {d : PyData} (q : Dv H v d) : flatV v = plainD d := by cases q <;> rfl
theorem plain_eq {H : Hp} {v u : V} {d e : PyData} (q : Dv H v d) (r : Dv H u e) (h : plainD d = true) (h2 : plainD e = true) : eqV v u = PyData.eqv d e := by
  cases q <;> cases r <;> first | rfl | exact Bool.noConfusion h | exact Bool.noConfusion h2
theorem plains {H : Hp} : ∀ {vs : List V} {ds : List PyData}, DvAll H vs ds → vs.all flatV = ds.all plainD
  | _, _, .nil => rfl
  | _, _, .cons a r => by rw [List.all_cons, List.all_cons, plain_v a, plains r]
theorem plain_in {H : Hp} {v : V} {d : PyData} (q : Dv H v d) (h : plainD d = true) : ∀ {vs : List V} {ds : List PyData}, DvAll H vs ds → ds.all plainD = true → inV v vs = ds.any fun z => PyData.eqv z d
  | _, _, .nil, _ => rfl
  | _, _, .cons a r, hp => by
    rw [List.all_cons, Bool.and_eq_true] at hp
    show (eqV _ v || inV v _) = _
    rw [List.any_cons, plain_eq a q hp.1 h, plain_in q h r hp.2]
def InD (d : PyData) (ds : List PyData) (k : Bool → Prop) : Prop := plainD d = true ∧ ds.all plainD = true ∧ k (ds.any fun z => PyData.eqv z d)
theorem gt_notin (kq : Bool) {ψ : Bool → List Sl → Prop} (hm : behindInMarks .NotIn b = false) (h : GE B X a Γ fun d Γ1 => GQ B X kq b Γ1 fun ds Γ2 => InD d ds fun c => ψ (!c) Γ2) : GT B X (.Compare a [.NotIn] [b] pos) Γ ψ := fun Hs σ H Q S g =>
  pt_of (pt_cmpR op_notIn_seq pe_W pe_W hm) (h Hs σ H _ S fun d Γ1 v Hs1 H1 p s1 S1 q1 => p Hs1 σ H1 _ S1 fun ds Γ2 c vs Hs2 H2 ⟨pd, pa, p2⟩ s2 S2 hq dv => by
    have q2 := q1.mono s2
    refine ⟨c, vs, rfl, by cases kq with | true => exact .inl hq | false => exact .inr hq, (plain_v q2).trans pd, (plains dv).trans pa, _, rfl, ?_⟩
    show Q (!inV v vs) H2
    rw [plain_in q2 pd dv pa]
    exact g _ Γ2 Hs2 H2 p2 (s1.trans s2) S2)
/-- the length of a sequence that stays -/
theorem ge_lenQ (kq : Bool) {x : Str} {p : Pos} (hx : x = "len") (hg : Gl X x) (hm : X.mg x = none) (he : starEach [a] X.env = (false, eval a X.env) :: starEach [] X.env) (h : GQ B X kq a Γ fun ds Γ1 => φ (.int ds.length) Γ1) : GE B X (.Call (.Name x p) [a] [] pos) Γ φ := by
  subst hx
  intro Hs σ H Q S g
  refine pe_of (pe_callB call_len hg hm (by decide +kernel) (pa_cons pe_W pa_nil he) (he := he)) (show teW X a σ H _ from h Hs σ H _ S fun ds Γ1 c vs Hs1 H1 p s S1 hq dv => ?_)
  show ∃ x n, [V.ref c] = [x] ∧ _
  refine ⟨_, vs.length, rfl, ?_, by rw [dv.len]; exact g _ Γ1 _ Hs1 H1 p s S1 (.int _)⟩
  cases kq with
  | true => exact .inl ⟨vs, hq, rfl⟩
  | false => exact .inr ⟨vs, hq, rfl⟩
/-- a walk over a sequence that stays -/
theorem gi_S (kq : Bool) {tg : Expr} {φ : Nat → (Nat → PyData) → (List Sl → Prop) → List Sl → Prop} (h : GS B X kq a Γ fun ds keep Γ1 => keep Γ1 ∧ φ ds.length (nth ds) keep Γ1) : GI B X tg a Γ φ := fun Hs σ H R S g =>
  pi_of (pi_seq pe_W) (show teW X a σ H _ from h Hs σ H _ S fun ds keep Γ1 c Hs1 H1 ⟨kp, p⟩ s S1 pr => by
    obtain ⟨vs, q, dv⟩ := pers_q pr S1 kp
    have it : ∀ J : It, (∀ i H, (∃ us x, SqX kq X.K H c us ∧ us[i]? = some x) → J.go i H) → (∀ i H, (∃ us, SqX kq X.K H c us ∧ us.length ≤ i) → J.stop i H) → (∀ i H x H', J.yld i H x H' → H' = H ∧ ∀ us, SqX kq X.K H c us → us[i]? = some x) → Its keep Hs1 J ds.length (nth ds) := fun J j1 j2 j3 => by
      refine ⟨fun H => ∃ us, SqX kq X.K H c us ∧ us.length = ds.length, J.yld, ⟨?_, ?_, fun _ _ _ _ _ _ y => y⟩, ?_, ?_⟩
      · rintro i H hi ⟨us, q, l⟩
        exact j1 i H ⟨us, us[i]'(by omega), q, by simp [show i < us.length by omega]⟩
      · rintro H ⟨us, q, l⟩
        exact j2 _ H ⟨us, q, by omega⟩
      · rintro B2 Hs2 σ2 H2 Γ2 kp2 s2 S2
        obtain ⟨us, q, d⟩ := pr B2 Hs2 σ2 H2 Γ2 kp2 s2 S2
        exact ⟨us, q, d.len⟩
      · rintro B2 i Hs2 σ2 H2 Γ2 x H' hi kp2 s2 S2 y
        obtain ⟨rfl, y⟩ := j3 i H2 x H' y
        obtain ⟨us, q, d⟩ := pr B2 Hs2 σ2 H' Γ2 kp2 s2 S2
        obtain ⟨e, ee, dd⟩ := dvs_get' d (y us q)
        rw [nth_at ee]
        exact ⟨Hs2, Same.refl _, S2, dd⟩
    cases kq with
    | true => exact .inl ⟨c, rfl, ⟨vs, q⟩, g _ _ keep Γ1 _ Hs1 H1 p s S1 (it (Itl X.K c) (fun i H ⟨us, x, a1, a2⟩ => ⟨us, x, a1, a2⟩) (fun i H ⟨us, a1, a2⟩ => ⟨us, a1, a2⟩) fun i H x H' y => y)⟩
    | false => exact .inr ⟨c, rfl, ⟨vs, q⟩, g _ _ keep Γ1 _ Hs1 H1 p s S1 (it (Itt X.K c) (fun i H ⟨us, x, a1, a2⟩ => ⟨us, x, a1, a2⟩) (fun i H ⟨us, a1, a2⟩ => ⟨us, a1, a2⟩) fun i H x H' y => y)⟩)
end
end Px
/-! Small steps on data, for the automatic run. -/
namespace Px
open PySem PySem.Spec PyProof.Rows L2 Tc
theorem to_ok {d : PyData} {a : PyData → Prop} {b : Addr → PyData → Prop} (h : a d) : (Out.ok d).to a b := h
theorem to_up {C : Addr} {d : PyData} {a : PyData → Prop} {b : Addr → PyData → Prop} (h : b C d) : (Out.up C d).to a b := h
theorem ite_t {c a b : Prop} {i : Decidable c} (hc : c) (h : a) : @ite Prop c i a b := by
  rw [if_pos hc]
  exact h
theorem ite_f {c a b : Prop} {i : Decidable c} (hc : ¬c) (h : b) : @ite Prop c i a b := by
  rw [if_neg hc]
  exact h
theorem to_t {c : Prop} {i : Decidable c} {o1 o2 : Out} {a : PyData → Prop} {b : Addr → PyData → Prop} (hc : c) (h : o1.to a b) : (@ite Out c i o1 o2).to a b := by
  rw [if_pos hc]
  exact h
theorem to_f {c : Prop} {i : Decidable c} {o1 o2 : Out} {a : PyData → Prop} {b : Addr → PyData → Prop} (hc : ¬c) (h : o2.to a b) : (@ite Out c i o1 o2).to a b := by
  rw [if_neg hc]
  exact h
theorem yes_nf : (!false) = true := rfl
theorem no_nt : ¬((!true) = true) := fun e => Bool.noConfusion e
theorem no_ft : ¬(false = true) := fun e => Bool.noConfusion e
theorem eqv_int (i j : Int) : PyData.eqv (.int i) (.int j) = decide (i = j) := by
  first | rfl | simp [PyData.eqv]
theorem eqv_str (x y : Str) : PyData.eqv (.str x) (.str y) = decide (x = y) := by
  first | rfl | simp [PyData.eqv]
theorem all_map {ds : List PyData} {g : PyData → Bool} {k : PyData → Prop} (h : k (.bool (ds.all g))) : AllD (.list (ds.map fun d => .bool (g d))) k := by
  refine ⟨ds.map g, by rw [List.map_map] <;> rfl, ?_⟩
  rw [List.all_map]
  exact h
theorem all_look {ds : List PyData} {g : PyData → Bool} {k : PyData → Prop} (h : k (.bool (ds.all g))) : AllD (.list (((List.range ds.length).filter fun _ => true).map fun i => .bool (g (nth ds i)))) k := by
  rw [range_map (fun d => .bool (g d)) ds]
  exact all_map h
def asI : PyData → Int
  | .int i => i
  | _ => 0
def isI : PyData → Bool
  | .int _ => true
  | _ => false
theorem ints_of : ∀ {ds : List PyData}, ds.all isI = true → ds = (ds.map asI).map .int
  | [], _ => rfl
  | d :: ds, h => by
    rw [List.all_cons] at h
    obtain ⟨a, b⟩ := (Bool.and_eq_true _ _).mp h
    cases d with
    | int i => exact congrArg (PyData.int i :: ·) (ints_of b)
    | _ => cases a
theorem sum_tup {ds : List PyData} {k : PyData → Prop} (a : ds.all isI = true) (h : k (.int (ds.map asI).sum)) : SumD (.tuple ds) k := ⟨ds.map asI, .inr (congrArg PyData.tuple (ints_of a)), h⟩
theorem sum_lst {ds : List PyData} {k : PyData → Prop} (a : ds.all isI = true) (h : k (.int (ds.map asI).sum)) : SumD (.list ds) k := ⟨ds.map asI, .inl (congrArg PyData.list (ints_of a)), h⟩
theorem all_rng {n : Nat} {g : Nat → Bool} {k : PyData → Prop} (h : k (.bool ((List.range n).all g))) : AllD (.list (((List.range n).filter fun _ => true).map fun i => .bool (g i))) k := by
  refine ⟨(List.range n).map g, ?_, ?_⟩
  · rw [List.map_map, List.filter_eq_self.mpr fun _ _ => rfl] <;> rfl
  · rw [List.all_map]
    exact h
def strL (l : List Str) : List PyData := l.map .str
theorem strs_plain : ∀ l : List Str, (strL l).all plainD = true
  | [] => rfl
  | _ :: l => strs_plain l
theorem strs_in (z : Str) : ∀ l : List Str, ((strL l).any fun y => PyData.eqv y (.str z)) = l.any fun y => decide (y = z)
  | [] => rfl
  | y :: l => by
    show (PyData.eqv (.str y) (.str z) || (strL l).any _) = _
    rw [eqv_str, strs_in z l] <;> rfl
def LocB (sc : Scope) (x : Str) : Bool := match sc.names.lookup x with
  | some .local | some .cell => true
  | _ => false
theorem locB_ok {sc : Scope} {x : Str} (h : LocB sc x = true) : Loc sc x := by
  unfold LocB at h
  split at h
  · exact .inl ‹_›
  · exact .inr ‹_›
  · cases h
theorem Cxt.blk {X : Cx} {k : Nat} (c : Cxt X k) (scope : Scope) (s : Shared) (H : Hp) (C : Addr) (cl : List (Str × Addr)) (fp : List Addr) : Cxt (blkX X scope s H C cl fp) k := ⟨c.room, c.gd, c.sm⟩
/-- the block's own names, with their slots -/
def ownS (N : List Str) (sc : Scope) : List (Str × Nat) := sc.names.filterMap fun e => match e.2 with
  | .local | .cell => (idxS N e.1).map fun i => (e.1, i)
  | _ => none
section
variable {B : Bas} {X : Cx} {Γ : List Sl} {pos : Pos} {k : Nat} {vs : List Nat}
/-- a comprehension's name is set -/
theorem gc_n {N : List Str} (nd : N.Nodup) (eN : X.N = N) {i : Nat} {x : Str} {d : PyData} {φ : List Sl → Prop} (hi : idxS X.N x = some i) (hx : LocB X.env.scope x = true) (hf : X.fn x = true ∨ X.env.scope.names.lookup x = some .local) (hm : vs.contains i = true)
    (h : Nat.ble (i + 1) Γ.length = true ∧ φ (Γ.set i (.d d))) : GC B X vs (.Name x pos) d Γ φ :=
  gc_name (eN ▸ nd) i (idxS_ok hi) (locB_ok hx) (List.contains_iff_mem.mp hm) ⟨Nat.le_of_ble_eq_true h.1, h.2⟩ hf
theorem gcs_n {N : List Str} (nd : N.Nodup) (eN : X.N = N) {i : Nat} {x : Str} {p : Pos} {d : PyData} {ts : List Expr} {ds : List PyData} {φ : List Sl → Prop} (hi : idxS X.N x = some i) (hx : LocB X.env.scope x = true) (hf : X.fn x = true ∨ X.env.scope.names.lookup x = some .local) (hm : vs.contains i = true)
    (h : Nat.ble (i + 1) Γ.length = true ∧ GCs B X vs ts ds (Γ.set i (.d d)) φ) (hs : (assignEach (.Name x p :: ts) X.env).map (·.2) = assign (.Name x p) X.env :: (assignEach ts X.env).map (·.2)) : GCs B X vs (.Name x p :: ts) (d :: ds) Γ φ :=
  gcs_cons _ (gc_n nd eN hi hx hf hm ⟨h.1, rfl⟩) h.2 hs
theorem gc_t (calm : X.calm = true) {ts : List Expr} {n1 : Nat} {ds : List PyData} {φ : List Sl → Prop} {n : Nat} (hn : (assignEach ts X.env).length = n) (hl : ds.length = n) (hst : (assignEach ts X.env).findIdx? (·.1) = none) (h : GCs B X vs ts ds Γ φ) : GC B X vs (.Tuple ts n1 pos) (.tuple ds) Γ φ := gc_tup calm h hn hl hst
theorem gi_writ {P : Program} {w : World} {K : PySem.W.Frag} {mg : Str → Option Value} {base : Heap} {x : Str} {a : Addr} {ds : List PyData} {tg : Expr} {φ : Nat → (Nat → PyData) → (List Sl → Prop) → List Sl → Prop} (hX : SameX X P w K mg base) (W : Writ K mg x a ds) (hg : Gl X x) (h : φ ds.length (nth ds) (fun _ => True) Γ) (hd : (x == ("__debug__" : Str)) = false) : GI B X tg (.Name x pos) Γ φ := gi_S false (gs_writ hX W hg ⟨trivial, h⟩ hd)
theorem gf_lk {N : List Str} {elt t iter : Expr} {ifs : List Expr} {scope : Scope} {φ : List PyData → List Sl → Prop} (calm : X.calm = true) (nd : N.Nodup) (eN : X.N = N) {own : List (Str × Nat)} (eo : ownS N scope = own) (ok : blkC N X.env.scope scope own = true)
    (hs : ∀ x, foldedSetIterable iter X.env x = pure x)
    (h : GI B X t iter Γ fun n f keep Γ1 => keep (clr Γ1 (own.map (·.2))) ∧ n ≤ sizeLine ∧ ∃ (p : Nat → Bool) (F : Nat → PyData),
      (∀ i, i < n → ∀ B', Blk X scope fun Y => GC B' Y (own.map (·.2)) t (f i) (clr Γ1 (own.map (·.2))) fun Γ2 => Blk X scope fun Y => GP B' Y ifs Γ2 fun b Γ3 => b = p i ∧ if b = true then Blk X scope fun Y => GE B' Y elt Γ3 fun d Γ4 => d = F i ∧ clr Γ4 (own.map (·.2)) = clr Γ1 (own.map (·.2)) else clr Γ3 (own.map (·.2)) = clr Γ1 (own.map (·.2))) ∧
      φ (((List.range n).filter p).map F) (clr Γ1 (own.map (·.2)))) : GF B X (.ListComp elt [⟨t, iter, ifs, 0⟩] scope pos) Γ φ := gf_look calm (eN ▸ nd) (eN.symm ▸ ok) hs h
theorem len_writ {P : Program} {w : World} {K : PySem.W.Frag} {mg : Str → Option Value} {base : Heap} {x f : Str} {p px : Pos} {a : Addr} {ds : List PyData} {φ : PyData → List Sl → Prop} (hX : SameX X P w K mg base) (W : Writ K mg x a ds) (hx : f = "len") (hg : Gl X f) (hm : X.mg f = none) (hg2 : Gl X x) (h : φ (.int ds.length) Γ) (hd : (x == ("__debug__" : Str)) = false)
    (he : starEach [.Name x px] X.env = (false, eval (.Name x px) X.env) :: starEach [] X.env) : GE B X (.Call (.Name f p) [.Name x px] [] pos) Γ φ :=
  ge_lenQ false hx hg hm he (gq_ofS (gs_writ hX W hg2 ⟨trivial, h⟩ hd))
theorem notin_writ {P : Program} {w : World} {K : PySem.W.Frag} {mg : Str → Option Value} {base : Heap} {x : Str} {px : Pos} {a : Expr} {ad : Addr} {ds : List PyData} {ψ : Bool → List Sl → Prop} (hX : SameX X P w K mg base) (W : Writ K mg x ad ds) (hg2 : Gl X x) (hm : behindInMarks .NotIn (.Name x px) = false) (h : GE B X a Γ fun d Γ1 => InD d ds fun c => ψ (!c) Γ1) (hd : (x == ("__debug__" : Str)) = false) : GT B X (.Compare a [.NotIn] [.Name x px] pos) Γ ψ :=
  gt_notin false hm fun Hs σ H Q S g => h Hs σ H Q S fun d Γ1 v Hs1 H1 p s S1 q => g d Γ1 v Hs1 H1 (gq_ofS (gs_writ hX W hg2 ⟨trivial, p⟩ hd)) s S1 q
end
end Px
/-! name = [..] -/
namespace Px
open PySem PySem.Spec PyProof.Rows L2 Tc
section
variable {B : Bas} {X : Cx} {Γ : List Sl} {pos : Pos} {k : Nat}
theorem lc_t {elt t iter : Expr} {ifs : List Expr} {scope : Scope} {own : List (Str × Nat)} {φ : List PyData → List Sl → Prop} 
    (h : GI B X t iter Γ fun n f keep Γ1 => ∃ I : Nat → List PyData → List Sl → Prop, I 0 [] (clr Γ1 (own.map (·.2))) ∧ (∀ i acc Γ, i ≤ n → I i acc Γ → keep Γ) ∧
      (∀ i acc Γ, i < n → I i acc Γ → ∀ B', Blk X scope fun Y => GC B' Y (own.map (·.2)) t (f i) (clr Γ (own.map (·.2))) fun Γ2 => Blk X scope fun Y => GP B' Y ifs Γ2 fun b Γ3 => if b = true then Blk X scope fun Y => GE B' Y elt Γ3 fun d Γ4 => acc.length < sizeLine ∧ I (i + 1) (acc ++ [d]) (clr Γ4 (own.map (·.2))) else I (i + 1) acc (clr Γ3 (own.map (·.2)))) ∧
      ∀ acc Γ, I n acc Γ → φ acc Γ)
    {Hs : Hp} {σ : L2.St} {H : Hp} {Q : VK} (S : Sx B Hs σ H Γ) (g : ∀ ds Γ' a vs Hs' H', φ ds Γ' → Same Hs Hs' → Sx B Hs' σ H' Γ' → B.fr a = none → Hs' a = none → Alone Γ' a → H' a = some (.lst vs) → DvAll Hs' vs ds → Q (.ref a) H') :
    tLc (tiW X t iter) (tgB X scope t) (tpB X scope ifs) (teB X scope elt) (own.map (·.2)) σ H Q :=
  h Hs σ H _ S fun n f keep Γ1 J Hs1 H1 ⟨I, i0, ik, step, done⟩ s S1 ⟨G, Y, w, wg, wy⟩ D hD => by
      obtain ⟨fD, nD, al⟩ := alone_new S1 hD
      refine lc_it w (fun i H' => ∃ acc vs Γ' Hs', I i acc Γ' ∧ Same Hs1 Hs' ∧ Sx B Hs' σ H' Γ' ∧ H' D = some (.lst vs) ∧ DvAll Hs' vs acc ∧ Hs' D = none ∧ Alone Γ' D) ⟨[], [], _, Hs1, i0, Same.refl _, (S1.aside hD).clr rfl (fun _ _ => rfl), upd_same, .nil, nD, fun i b es e => al i b es (clr_some e fun z => nomatch z).2⟩ ?_ ?_ ?_
      · rintro i H' hi ⟨acc, vs, Γ', Hs', p, s', S', _⟩
        exact wg B Hs' σ H' Γ' (ik i acc Γ' hi p) s' S'
      · rintro i x H' H'' hi ⟨acc, vs, Γ', Hs', p, s', S', hD', dv, nD', al'⟩ y
        have SB := S'.hold hD' nD' fD al'
        have g0 : Grow B.fr B.hs Hs' := S'.gr
        obtain ⟨Hs2, s2, S2, dx⟩ := wy _ i Hs' σ H' Γ' x H'' hi (ik i acc Γ' (Nat.le_of_lt hi) p) s' SB y
        have body := step i acc Γ' hi p ⟨upd B.fr D (.lst vs), Hs', B.T⟩
        have S2w : Sx ⟨upd B.fr D (.lst vs), Hs', B.T⟩ Hs2 (wipe σ (own.map (·.2))) H'' (clr Γ' (own.map (·.2))) := S2.clr (wipe_length _ _) fun j hj => wipe_out hj
        have back : ∀ {Γ6 : List Sl} {Hs6 : Hp} {σ6 : L2.St} {H6 : Hp}, wipe σ6 (own.map (·.2)) = wipe σ (own.map (·.2)) → Sx ⟨upd B.fr D (.lst vs), Hs', B.T⟩ Hs6 σ6 H6 Γ6 → Sx B Hs6 σ H6 (clr Γ6 (own.map (·.2))) ∧ H6 D = some (.lst vs) ∧ Hs6 D = none ∧ Alone (clr Γ6 (own.map (·.2))) D := fun {Γ6 Hs6 σ6 H6} w6 S6 => by
          obtain ⟨l, e⟩ := wipe_same w6
          exact (S6.clr (vs := own.map (·.2)) l.symm fun j hj => (e j hj).symm).loose g0 fD nD'
        intro s0 H0 C cl fp
        refine body s0 H0 C cl fp Hs2 (wipe σ (own.map (·.2))) H'' x _ S2w dx fun Γ2 Hs3 σ3 H3 p3 s3 S3 w3 => ?_
        have w3 : wipe σ3 (own.map (·.2)) = wipe σ (own.map (·.2)) := w3.trans (wipe_eq (wipe_length _ _) fun j hj => wipe_out hj)
        refine ⟨w3, fun s0 H0 C cl fp => p3 s0 H0 C cl fp Hs3 σ3 H3 _ S3 fun b Γ3 Hs4 H4 p4 s4 S4 => ?_⟩
        cases b with
        | false =>
          obtain ⟨Sb, hb, nb, ab⟩ := back w3 S4
          have sAll : Same Hs' Hs4 := s2.trans (s3.trans s4)
          exact iteF ⟨acc, vs, _, Hs4, p4, s'.trans sAll, Sb, hb, dv.mono sAll, nb, ab⟩
        | true =>
          have p4 : Blk X scope fun Y => GE _ Y elt Γ3 fun d Γ4 => acc.length < sizeLine ∧ I (i + 1) (acc ++ [d]) (clr Γ4 (own.map (·.2))) := p4
          refine iteT fun s0 H0 C cl fp => p4 s0 H0 C cl fp Hs4 σ3 H4 _ S4 fun d Γ5 v5 Hs5 H5 ⟨hl, p5⟩ s5 S5 q5 => ?_
          obtain ⟨Sb, hb, nb, ab⟩ := back w3 S5
          have sAll : Same Hs' Hs5 := s2.trans (s3.trans (s4.trans s5))
          exact ⟨vs, hb, by rw [dv.len]; exact hl, acc ++ [d], vs ++ [v5], _, Hs5, p5, s'.trans sAll, Sb.beside hb rfl nb fD ab, upd_same, dvs_snoc (dv.mono sAll) q5, nb, ab⟩
      · rintro H' ⟨acc, vs, Γ', Hs', p, s', S', hD', dv, nD', al'⟩
        exact g acc Γ' D vs Hs' H' (done acc Γ' p) (s.trans s') S' fD nD' al' hD' dv
theorem lk_t {elt t iter : Expr} {ifs : List Expr} {scope : Scope} {own : List (Str × Nat)} {φ : List PyData → List Sl → Prop}
    (h : GI B X t iter Γ fun n f keep Γ1 => keep (clr Γ1 (own.map (·.2))) ∧ n ≤ sizeLine ∧ ∃ (p : Nat → Bool) (F : Nat → PyData),
      (∀ i, i < n → ∀ B', Blk X scope fun Y => GC B' Y (own.map (·.2)) t (f i) (clr Γ1 (own.map (·.2))) fun Γ2 => Blk X scope fun Y => GP B' Y ifs Γ2 fun b Γ3 => b = p i ∧ if b = true then Blk X scope fun Y => GE B' Y elt Γ3 fun d Γ4 => d = F i ∧ clr Γ4 (own.map (·.2)) = clr Γ1 (own.map (·.2)) else clr Γ3 (own.map (·.2)) = clr Γ1 (own.map (·.2))) ∧
      φ (((List.range n).filter p).map F) (clr Γ1 (own.map (·.2))))
    {Hs : Hp} {σ : L2.St} {H : Hp} {Q : VK} (S : Sx B Hs σ H Γ) (g : ∀ ds Γ' a vs Hs' H', φ ds Γ' → Same Hs Hs' → Sx B Hs' σ H' Γ' → B.fr a = none → Hs' a = none → Alone Γ' a → H' a = some (.lst vs) → DvAll Hs' vs ds → Q (.ref a) H') :
    tLc (tiW X t iter) (tgB X scope t) (tpB X scope ifs) (teB X scope elt) (own.map (·.2)) σ H Q := by
  refine lc_t (φ := φ) (fun Hs σ H R S g => ?_) S g
  refine h Hs σ H R S fun n f keep Γ1 J Hs1 H1 ⟨kp, hn, p, F, step, fin⟩ s S1 it => g n f keep Γ1 J Hs1 H1 ?_ s S1 it
  refine ⟨fun i acc Γ' => Γ' = clr Γ1 (own.map (·.2)) ∧ acc = ((List.range i).filter p).map F, ⟨rfl, rfl⟩, fun i acc Γ' _ ⟨e, _⟩ => e ▸ kp, ?_, ?_⟩
  · rintro i acc Γ' hi ⟨rfl, rfl⟩ B' s0 H0 C cl fp
    rw [clr_clr]
    intro Hs2 σ2 H2 v Q S2 dv g2
    refine step i hi B' s0 H0 C cl fp Hs2 σ2 H2 v Q S2 dv fun Γ2 Hs3 σ3 H3 p2 s3 S3 w3 => g2 Γ2 Hs3 σ3 H3 (fun s0 H0 C cl fp => ?_) s3 S3 w3
    intro Hs4 σ4 H4 Q4 S4 g4
    refine p2 s0 H0 C cl fp Hs4 σ4 H4 Q4 S4 fun b Γ3 Hs5 H5 ⟨eb, p3⟩ s5 S5 => g4 b Γ3 Hs5 H5 ?_ s5 S5
    have len : (((List.range i).filter p).map F).length < sizeLine := by
      rw [List.length_map]
      exact Nat.lt_of_le_of_lt (List.length_filter_le _ _) (by rw [List.length_range]; omega)
    cases b with
    | false =>
      refine iteF ⟨p3, ?_⟩
      rw [List.range_succ, List.filter_append, List.map_append, show [i].filter p = [] by simp [← eb]]
      simp
    | true =>
      have p3 : Blk X scope fun Y => GE B' Y elt Γ3 fun d Γ4 => d = F i ∧ clr Γ4 (own.map (·.2)) = clr Γ1 (own.map (·.2)) := p3
      refine iteT fun s0 H0 C cl fp Hs6 σ6 H6 Q6 S6 g6 => p3 s0 H0 C cl fp Hs6 σ6 H6 Q6 S6 fun d Γ4 v7 Hs7 H7 ⟨ed, ec⟩ s7 S7 q7 => g6 d Γ4 v7 Hs7 H7 ⟨len, ec, ?_⟩ s7 S7 q7
      rw [List.range_succ, List.filter_append, List.map_append, show [i].filter p = [i] by simp [← eb], ed]
      rfl
  · rintro acc Γ' ⟨rfl, rfl⟩
    exact fin
theorem lockS {B : Bas} {Γ' : List Sl} {Hs' H' : Hp} {σ' : L2.St} {a : Addr} {vs : List V} {ds : List PyData} (T : Sx B Hs' σ' H' Γ') (f : B.fr a = none) (n : Hs' a = none) (al : Alone Γ' a) (ha : H' a = some (.lst vs)) (q : DvAll Hs' vs ds) :
    Same Hs' (upd Hs' a (.lst vs)) ∧ Sx B (upd Hs' a (.lst vs)) σ' H' Γ' ∧ Dv (upd Hs' a (.lst vs)) (.ref a) (.list ds) := by
  have g : Same Hs' (upd Hs' a (.lst vs)) := Same.new n
  refine ⟨g, ⟨T.fr, T.gr.trans ⟨g, fun b nb fb => ?_⟩, fun b u eb => ?_, T.len, fun j t ej => (T.sl j t ej).mono g fun b es z => ?_, T.ap, tabs_fz T.tb ha⟩, .lst (.inl upd_same) (q.mono g)⟩
  · exact (upd_ne fun z => fb (by rw [z]; exact f)).trans nb
  · by_cases z : b = a
    · subst z
      rw [upd_same] at eb
      rw [ha]
      exact eb
    · rw [upd_ne z] at eb
      exact T.sub b u eb
  · subst z
    obtain ⟨_, _, nb, _⟩ := T.lst ej
    exact ⟨(upd_ne (al j b es ej)).trans nb, rfl⟩
theorem set_ld {N : List Str} {E : DE} {x : Str} {py : Pos} {elt t iter : Expr} {ifs : List Expr} {scope : Scope} {lpos : Pos} {i : Nat} (c : Bod X k) (nd : N.Nodup) (eN : X.N = N) {own : List (Str × Nat)} (hi : idxS X.N x = some i) (hx : X.env.scope.names.lookup x = some .local) (eo : ownS N scope = own) (ok : blkC N X.env.scope scope own = true)
    (hsw : swapsWith (.ListComp elt [⟨t, iter, ifs, 0⟩] scope lpos) (some (.Name x py)) pos.line X.env = pure true) (hs : ∀ x, foldedSetIterable iter X.env x = pure x)
    (h : GI B X t iter Γ fun n f keep Γ1 => keep (clr Γ1 (own.map (·.2))) ∧ n ≤ sizeLine ∧ ∃ (p : Nat → Bool) (F : Nat → PyData),
      (∀ i, i < n → ∀ B', Blk X scope fun Y => GC B' Y (own.map (·.2)) t (f i) (clr Γ1 (own.map (·.2))) fun Γ2 => Blk X scope fun Y => GP B' Y ifs Γ2 fun b Γ3 => b = p i ∧ if b = true then Blk X scope fun Y => GE B' Y elt Γ3 fun d Γ4 => d = F i ∧ clr Γ4 (own.map (·.2)) = clr Γ1 (own.map (·.2)) else clr Γ3 (own.map (·.2)) = clr Γ1 (own.map (·.2))) ∧
      (Nat.ble (i + 1) (clr Γ1 (own.map (·.2))).length = true ∧ E.nx ((clr Γ1 (own.map (·.2))).set i (.d (.list (((List.range n).filter p).map F)))))) : G1 B X (.Assign [.Name x py] (.ListComp elt [⟨t, iter, ifs, 0⟩] scope lpos) pos) Γ E := fun D Hs σ H R S =>
  ps_of (ps_setLc (wi := tiW X t iter) (g := tgB X scope t) (tt := tpB X scope ifs) (te := teB X scope elt) c.calm (eN ▸ nd) (idxS_ok hi) hx hsw pi_W (blkOk_by (eN.symm ▸ ok)) (fun s0 H0 C cl fp => ⟨fun pins s _ _ _ u _ I r h => tgE (h s0 H0 C cl fp) pins s u I r⟩) (fun s0 H0 C cl fp => ⟨fun pins s _ _ _ I h => tpE (h s0 H0 C cl fp) pins s I⟩) (fun s0 H0 C cl fp => ⟨fun pins s _ _ _ I h => teE (h s0 H0 C cl fp) pins s I⟩) hs)
    (lk_t (φ := fun ds Γ1 => Nat.ble (i + 1) Γ1.length = true ∧ E.nx (Γ1.set i (.d (.list ds)))) h S fun ds Γ1 a vs Hs1 H1 ⟨l, p⟩ s S1 f n al ha q => by
      obtain ⟨g, S2, d⟩ := lockS S1 f n al ha q
      exact R.nx _ _ _ H1 p (s.trans g) (S2.putD (Nat.le_of_ble_eq_true l) d))
end
end Px
/-! Places of lists of one's own, by names. -/
namespace Px
open PySem PySem.Spec PyProof.Rows L2 Tc
section
variable {B : Bas} {X : Cx} {Γ : List Sl} {E : DE} {pos : Pos} {k : Nat}
theorem ixo_n {i : Nat} {x : Str} {p0 : Pos} {b : Expr} {ad : Addr} {ds : List PyData} {φ : PyData → List Sl → Prop} (hN : idxS X.N x = some i) (hΓ : Γ[i]? = some (.own ad ds)) (hv : Sees X.env.scope x = true) (hs : PlainIx b) (h : GE B X b Γ fun d2 Γ2 => ∃ es, Γ2[i]? = some (.own ad es) ∧ IxD (.list es) d2 fun d => φ d Γ2)
    (hd : (x == ("__debug__" : Str)) = false) (hcd : (x == ("__classdict__" : Str)) = false) : GE B X (.Subscript (.Name x p0) b pos) Γ φ := ge_ixO i (idxS_ok hN) hΓ (sees_ok hv) hs h hd hcd
theorem put_n {i : Nat} {x : Str} {e j : Expr} {p0 ps : Pos} {ad : Addr} {ds0 : List PyData} (hN : idxS X.N x = some i) (hΓ : Γ[i]? = some (.own ad ds0)) (hv : Sees X.env.scope x = true)
    (h : GE B X e Γ fun d Γ1 => (∃ ds, Γ1[i]? = some (.own ad ds)) ∧ GE B X j Γ1 fun dj Γ2 => ∃ ds m, Γ2[i]? = some (.own ad ds) ∧ ∃ n, dj = .int n ∧ ixN ds.length n = some m ∧ E.nx (Γ2.set i (.own ad (ds.set m d))))
    (hd : (x == ("__debug__" : Str)) = false) (hcd : (x == ("__classdict__" : Str)) = false)
    (ha : ∀ v, assign (.Subscript (.Name x p0) j ps) X.env v = (do
      let ov ← holding [v] (eval (.Name x p0) X.env)
      let iv ← holding [v, ov] (eval j X.env)
      standAt ps
      holding [v, ov, iv] (setItem ov iv v)
      release [v, ov, iv] []))
    (hs : swapsWithSole [.Subscript (.Name x p0) j ps] e pos.line X.env = pure false) (hw : swappedStores [.Subscript (.Name x p0) j ps] e X.env = pure none)
    (h1 : (assignEach [.Subscript (.Name x p0) j ps] X.env).map (·.2) = [assign (.Subscript (.Name x p0) j ps) X.env]) : G1 B X (.Assign [.Subscript (.Name x p0) j ps] e pos) Γ E := g1_put i (idxS_ok hN) (sees_ok hv) h hd hcd ha hs hw h1
/-- a place of a list as a target -/
theorem gg_put {i : Nat} {x : Str} {j : Expr} {p0 : Pos} {ad : Addr} {ds0 : List PyData} {d : PyData} {φ : List Sl → Prop} (hN : idxS X.N x = some i) (hΓ : Γ[i]? = some (.own ad ds0)) (hv : Sees X.env.scope x = true)
    (h : GE B X j Γ fun dj Γ2 => ∃ ds m, Γ2[i]? = some (.own ad ds) ∧ ∃ n, dj = .int n ∧ ixN ds.length n = some m ∧ φ (Γ2.set i (.own ad (ds.set m d))))
    (hd : (x == ("__debug__" : Str)) = false) (hcd : (x == ("__classdict__" : Str)) = false)
    (ha : ∀ v, assign (.Subscript (.Name x p0) j pos) X.env v = (do
      let ov ← holding [v] (eval (.Name x p0) X.env)
      let iv ← holding [v, ov] (eval j X.env)
      standAt pos
      holding [v, ov, iv] (setItem ov iv v)
      release [v, ov, iv] [])) : GG B X (.Subscript (.Name x p0) j pos) d Γ φ := fun Hs σ H v Q S q g => by
  refine pg_of (pg_sub (pe_var (idxS_ok hN) (sees_ok hv) hd hcd) pe_W set_list ha) ?_
  obtain ⟨e1, _⟩ := S.lst hΓ
  refine ⟨_, e1, h Hs σ H _ S fun dj Γ2 vj Hs2 H2 ⟨ds, m, g2, n, ej, ix, nx⟩ s2 S2 qj => ?_⟩
  subst ej
  cases qj
  obtain ⟨_, _, _, vs, hv2, dv⟩ := S2.lst g2
  exact ⟨ad, vs, n, m, rfl, rfl, hv2, by rw [dv.len]; exact ix, g _ Hs2 σ _ nx s2 (S2.upd g2 (dvs_set m dv (q.mono s2)))⟩
theorem gg_n {N : List Str} (nd : N.Nodup) (eN : X.N = N) {i : Nat} {x : Str} {d : PyData} {φ : List Sl → Prop} (hi : idxS X.N x = some i) (hx : LocB X.env.scope x = true) (hf : X.fn x = true ∨ X.env.scope.names.lookup x = some .local)
    (h : Nat.ble (i + 1) Γ.length = true ∧ φ (Γ.set i (.d d))) : GG B X (.Name x pos) d Γ φ := gg_name (eN ▸ nd) i (idxS_ok hi) (locB_ok hx) ⟨Nat.le_of_ble_eq_true h.1, h.2⟩ hf
theorem gg_t (calm : X.calm = true) {ts : List Expr} {n1 : Nat} {ds : List PyData} {φ : List Sl → Prop} {n : Nat} (hn : (assignEach ts X.env).length = n) (hl : ds.length = n) (hst : (assignEach ts X.env).findIdx? (·.1) = none) (h : GGs B X ts ds Γ φ) : GG B X (.Tuple ts n1 pos) (.tuple ds) Γ φ := gg_tup calm h hn hl hst
theorem ggs_put {i : Nat} {x : Str} {j : Expr} {p0 ps : Pos} {ad : Addr} {ds0 : List PyData} {d : PyData} {ts : List Expr} {ds : List PyData} {φ : List Sl → Prop} {n : Int} {m : Nat} (hN : idxS X.N x = some i) (hΓ : Γ[i]? = some (.own ad ds0)) (hv : Sees X.env.scope x = true)
    (hj : ∀ ψ : PyData → List Sl → Prop, ψ (.int n) Γ → GE B X j Γ ψ) (hm : ixN ds0.length n = some m)
    (h : GGs B X ts ds (Γ.set i (.own ad (ds0.set m d))) φ)
    (hd : (x == ("__debug__" : Str)) = false) (hcd : (x == ("__classdict__" : Str)) = false)
    (ha : ∀ v, assign (.Subscript (.Name x p0) j ps) X.env v = (do
      let ov ← holding [v] (eval (.Name x p0) X.env)
      let iv ← holding [v, ov] (eval j X.env)
      standAt ps
      holding [v, ov, iv] (setItem ov iv v)
      release [v, ov, iv] []))
    (hs : (assignEach (.Subscript (.Name x p0) j ps :: ts) X.env).map (·.2) = assign (.Subscript (.Name x p0) j ps) X.env :: (assignEach ts X.env).map (·.2)) : GGs B X (.Subscript (.Name x p0) j ps :: ts) (d :: ds) Γ φ :=
  ggs_cons _ (gg_put hN hΓ hv (hj _ ⟨ds0, m, hΓ, n, rfl, hm, rfl⟩) hd hcd ha) h hs
theorem ggs_put0 {i : Nat} {x : Str} {p0 ps cp : Pos} {ad : Addr} {ds0 : List PyData} {d : PyData} {ts : List Expr} {ds : List PyData} {φ : List Sl → Prop} {n : Int} {m k0 : Nat} (hN : idxS X.N x = some i) (hΓ : Γ[i]? = some (.own ad ds0)) (hv : Sees X.env.scope x = true)
    (hm : ixN ds0.length n = some m)
    (h : GGs B X ts ds (Γ.set i (.own ad (ds0.set m d))) φ)
    (hd : (x == ("__debug__" : Str)) = false) (hcd : (x == ("__classdict__" : Str)) = false)
    (ha : ∀ v, assign (.Subscript (.Name x p0) (.Constant (.int n) k0 cp) ps) X.env v = (do
      let ov ← holding [v] (eval (.Name x p0) X.env)
      let iv ← holding [v, ov] (eval (.Constant (.int n) k0 cp) X.env)
      standAt ps
      holding [v, ov, iv] (setItem ov iv v)
      release [v, ov, iv] []))
    (hs : (assignEach (.Subscript (.Name x p0) (.Constant (.int n) k0 cp) ps :: ts) X.env).map (·.2) = assign (.Subscript (.Name x p0) (.Constant (.int n) k0 cp) ps) X.env :: (assignEach ts X.env).map (·.2)) : GGs B X (.Subscript (.Name x p0) (.Constant (.int n) k0 cp) ps :: ts) (d :: ds) Γ φ :=
  ggs_put hN hΓ hv (fun ψ h => ge_int h) hm h hd hcd ha hs
theorem ggs_n {N : List Str} (nd : N.Nodup) (eN : X.N = N) {i : Nat} {x : Str} {p : Pos} {d : PyData} {ts : List Expr} {ds : List PyData} {φ : List Sl → Prop} (hi : idxS X.N x = some i) (hx : LocB X.env.scope x = true) (hf : X.fn x = true ∨ X.env.scope.names.lookup x = some .local)
    (h : Nat.ble (i + 1) Γ.length = true ∧ GGs B X ts ds (Γ.set i (.d d)) φ) (hs : (assignEach (.Name x p :: ts) X.env).map (·.2) = assign (.Name x p) X.env :: (assignEach ts X.env).map (·.2)) : GGs B X (.Name x p :: ts) (d :: ds) Γ φ :=
  ggs_cons _ (gg_n nd eN hi hx hf ⟨h.1, rfl⟩) h.2 hs
theorem asg_t {ts : List Expr} {n1 : Nat} {tp : Pos} {e : Expr} (h : GE B X e Γ fun d Γ1 => GG B X (.Tuple ts n1 tp) d Γ1 E.nx) (hs : swapsWithSole [.Tuple ts n1 tp] e pos.line X.env = pure false) (hw : swappedStores [.Tuple ts n1 tp] e X.env = pure none)
    (h1 : (assignEach [.Tuple ts n1 tp] X.env).map (·.2) = [assign (.Tuple ts n1 tp) X.env]) : G1 B X (.Assign [.Tuple ts n1 tp] e pos) Γ E := g1_asg h hs hw h1
theorem mod_i {i j : Int} {k : PyData → Prop} (c : 0 < j) (h : k (.int (i % j))) : IntD (fun _ j => 0 < j) (fun i j => i % j) (.int i) (.int j) k := ⟨c, h⟩
theorem fdiv_i {i j : Int} {k : PyData → Prop} (c : 0 < j) (c2 : j.natAbs < 2 ^ 600) (h : k (.int (i / j))) : IntD CDivW (fun i j => i / j) (.int i) (.int j) k := ⟨wide_div c c2 (by decide) (by decide), h⟩
end
end Px
namespace Px
open PySem PySem.Spec PyProof.Rows L2 Tc
section
variable {B : Bas} {X : Cx} {Γ : List Sl} {E : DE} {pos : Pos} {k : Nat}
/-- {} -/
theorem ge_dict0 {φ : PyData → List Sl → Prop} (h : φ (.dict []) Γ) : GE B X (.Dict [] [] pos) Γ φ := fun Hs σ H Q S g => pe_of pe_dnewK fun q hq => by
  obtain ⟨k, U⟩ := S.new (o := .dK []) hq
  exact g _ Γ (.ref q) _ _ h k U (.dct (.inl upd_same) .nil)
theorem mul_ti {x : PyData} {xs : List PyData} {j : Int} {k : PyData → Prop} (c : 2 ≤ j ∧ j ≤ 1000) (l : Nat.ble (x :: xs).length 1000 = true) (h : k (.tuple (List.replicate j.toNat (x :: xs)).flatten)) : MulD (.tuple (x :: xs)) (.int j) k := ⟨⟨List.cons_ne_nil _ _, c.1, c.2, Nat.le_of_ble_eq_true l⟩, h⟩
theorem add_l2 {xs ys : List PyData} {k : PyData → Prop} (l : Nat.ble (xs.length + ys.length) 1000 = true) (h : k (.list (xs ++ ys))) : AddD (.list xs) (.list ys) k := add_ll (Nat.le_trans (Nat.le_of_ble_eq_true l) (by decide)) h
theorem add_t2 {xs ys : List PyData} {k : PyData → Prop} (l : Nat.ble (xs.length + ys.length) 1000 = true) (h : k (.tuple (xs ++ ys))) : AddD (.tuple xs) (.tuple ys) k := add_tt (Nat.le_trans (Nat.le_of_ble_eq_true l) (by decide)) h
end
end Px
/-! Things that are not tracked, tracked while a def runs; and the other way round. -/
namespace Py
open PySem PySem.Spec PyProof.Rows L2 Tc Px
abbrev Pins := List (Addr × Obj)
/-- this very object stands there -/
def ObO (a : Addr) (o : Obj) : HO := .ext fun h => h.get? a = some o
def plus (H : Hp) (L : Pins) : Hp := fun b => match L.lookup b with
  | some o => some (ObO b o)
  | none => H b
def less (H : Hp) (L : Pins) : Hp := fun b => match L.lookup b with
  | some _ => none
  | none => H b
def back (H2 H' : Hp) (L : Pins) : Hp := fun b => match L.lookup b with
  | some _ => H2 b
  | none => H' b
section
variable {H H' H2 : Hp} {L : Pins} {b : Addr} {o : Obj}
theorem plus_in (h : L.lookup b = some o) : plus H L b = some (ObO b o) := by unfold plus; rw [h]
theorem plus_out (h : L.lookup b = none) : plus H L b = H b := by unfold plus; rw [h]
theorem less_in (h : L.lookup b = some o) : less H L b = none := by unfold less; rw [h]
theorem less_out (h : L.lookup b = none) : less H L b = H b := by unfold less; rw [h]
theorem back_in (h : L.lookup b = some o) : back H2 H' L b = H2 b := by unfold back; rw [h]
theorem back_out (h : L.lookup b = none) : back H2 H' L b = H' b := by unfold back; rw [h]
theorem obO_ok {P : Program} {w : World} {h : Heap} (e : h.get? b = some o) : ObjOk P w H h b (ObO b o) := ⟨e, ⟨o, e⟩, fun _ _ q k => k o q⟩
/-- what is to be tracked for a while -/
structure Free (L : Pins) (H : Hp) (h : Heap) (fs : List Addr) : Prop where
  at_ : ∀ b o, L.lookup b = some o → h.get? b = some o
  no : ∀ b o, L.lookup b = some o → H b = none
  fr : ∀ b o, L.lookup b = some o → b ∉ fs
theorem Free.out {h : Heap} {fs : List Addr} (F : Free L H h fs) {u : HO} (e : H b = some u) : L.lookup b = none := by
  cases q : L.lookup b with
  | none => rfl
  | some o => rw [F.no b o q] at e; cases e
section
variable {P : Program} {w : World} {h h' B : Heap} {fs : List Addr}
theorem hok_plus (F : Free L H h fs) (k : HOk P w H h) : HOk P w (plus H L) h := fun b u e => by
  cases q : L.lookup b with
  | some o =>
    rw [plus_in q] at e
    cases e
    exact obO_ok (F.at_ b o q)
  | none =>
    rw [plus_out q] at e
    exact (k b u e).stay (fun _ _ _ z => z) (fun c z => by rw [plus_out (F.out z)]; exact z) fun c xs z => by rw [plus_out (F.out z)]; exact z
/-- all of them are there still -/
def Kept (L : Pins) (H' : Hp) : Prop := ∀ b o, L.lookup b = some o → H' b = some (ObO b o)
theorem Kept.at_ (K : Kept L H') (k : HOk P w H' h) {b : Addr} {o : Obj} (q : L.lookup b = some o) : h.get? b = some o := by
  obtain ⟨e, _⟩ : h.get? b = some o ∧ _ := k b _ (K b o q)
  exact e
theorem hok_less (K : Kept L H') (k : HOk P w H' h') : HOk P w (less H' L) h' := fun b u e => by
  cases q : L.lookup b with
  | some o => rw [less_in q] at e; cases e
  | none =>
    rw [less_out q] at e
    have out : ∀ c u, H' c = some u → (∀ o, u ≠ ObO c o) → L.lookup c = none := fun c u z n => by
      cases q : L.lookup c with
      | none => rfl
      | some o =>
        rw [K c o q] at z
        exact absurd (Option.some.inj z).symm (n o)
    exact (k b u e).stay (fun _ _ _ z => z) (fun c z => by rw [less_out (out c _ z fun o y => by unfold ObO at y; cases y)]; exact z) fun c xs z => by rw [less_out (out c _ z fun o y => by unfold ObO at y; cases y)]; exact z
theorem un_less (F : Free L H h fs) (K : Kept L H') (k : HOk P w H' h') (u : Un fs [] (plus H L) H' h h') : Un fs [] H (less H' L) h h' where
  keep := fun b o e n nf nx => by
    cases q : L.lookup b with
    | some o2 =>
      have z := F.at_ b o2 q
      rw [z] at e
      cases e
      exact K.at_ k q
    | none => exact u.keep b o e (by rw [plus_out q]; exact n) nf nx
  slot := fun b o e n nf nx => by
    cases q : L.lookup b with
    | some o2 => exact absurd nf (F.fr b o2 q)
    | none => exact u.slot b o e (by rw [plus_out q]; exact n) nf nx
  free := fun b o e n nx => by
    cases q : L.lookup b with
    | some o2 => exact less_in q
    | none => rw [less_out q]; exact u.free b o e (by rw [plus_out q]; exact n) nx
  there := u.there
  tups := fun b xs e => by
    have q := F.out e
    rw [less_out q]
    exact u.tups b xs (by rw [plus_out q]; exact e)
  frzs := fun b ob xs e => by
    have q := F.out e
    rw [less_out q]
    exact u.frzs b ob xs (by rw [plus_out q]; exact e)
  tbls := fun b ps e => by
    have q := F.out e
    rw [less_out q]
    exact u.tbls b ps (by rw [plus_out q]; exact e)
theorem ub_less (F : Free L H h fs) (K : Kept L H') (k : HOk P w H' B) (u : UB fs (plus H L) H' h B h') : UB fs H (less H' L) h B h' where
  keep := fun b o e n nf => by
    cases q : L.lookup b with
    | some o2 =>
      have z := F.at_ b o2 q
      rw [z] at e
      cases e
      exact K.at_ k q
    | none => exact u.keep b o e (by rw [plus_out q]; exact n) nf
  slot := u.slot
  free := fun b o e n => by
    cases q : L.lookup b with
    | some o2 => exact less_in q
    | none => rw [less_out q]; exact u.free b o e (by rw [plus_out q]; exact n)
  there := u.there
  tups := fun b xs e => by
    have q := F.out e
    rw [less_out q]
    exact u.tups b xs (by rw [plus_out q]; exact e)
  frzs := fun b ob xs e => by
    have q := F.out e
    rw [less_out q]
    exact u.frzs b ob xs (by rw [plus_out q]; exact e)
  tbls := fun b ps e => by
    have q := F.out e
    rw [less_out q]
    exact u.tbls b ps (by rw [plus_out q]; exact e)
/-! the other way -/
theorem un_back (K : Kept L H2) (k : HOk P w H2 h) (nf : ∀ b o, L.lookup b = some o → b ∉ fs) (u : Un fs [] (less H2 L) H' h h') : Un fs [] H2 (back H2 H' L) h h' := by
  have out : ∀ c u, H2 c = some u → (∀ o, u ≠ ObO c o) → L.lookup c = none := fun c u z n => by
    cases q : L.lookup c with
    | none => rfl
    | some o =>
      rw [K c o q] at z
      exact absurd (Option.some.inj z).symm (n o)
  have o0 : ∀ c, H2 c = none → L.lookup c = none := fun c z => by
    cases q : L.lookup c with
    | none => rfl
    | some o => rw [K c o q] at z; cases z
  refine ⟨fun b o e n f x => u.keep b o e (by rw [less_out (o0 b n)]; exact n) f x, fun b o e n f x => u.slot b o e (by rw [less_out (o0 b n)]; exact n) f x, fun b o e n x => by rw [back_out (o0 b n)]; exact u.free b o e (by rw [less_out (o0 b n)]; exact n) x, u.there, fun b xs e => ?_, fun b ob xs e => ?_, fun b ps e => ?_⟩
  · have q := out b _ e fun o y => by unfold ObO at y; cases y
    rw [back_out q]
    exact u.tups b xs (by rw [less_out q]; exact e)
  · have q := out b _ e fun o y => by unfold ObO at y; cases y
    rw [back_out q]
    exact u.frzs b ob xs (by rw [less_out q]; exact e)
  · have q := out b _ e fun o y => by unfold ObO at y; cases y
    rw [back_out q]
    exact u.tbls b ps (by rw [less_out q]; exact e)
theorem hok_back {h1 : Heap} (K : Kept L H2) (k : HOk P w H2 h) (no : ∀ b o, L.lookup b = some o → H' b = none) (at_ : ∀ b o, L.lookup b = some o → h1.get? b = some o) (k' : HOk P w H' h1) : HOk P w (back H2 H' L) h1 := fun b u e => by
  cases q : L.lookup b with
  | some o =>
    rw [back_in q, K b o q] at e
    cases e
    exact obO_ok (at_ b o q)
  | none =>
    rw [back_out q] at e
    have out : ∀ c u, H' c = some u → L.lookup c = none := fun c u z => by
      cases q : L.lookup c with
      | none => rfl
      | some o => rw [no c o q] at z; cases z
    exact (k' b u e).stay (fun _ _ _ z => z) (fun c z => by rw [back_out (out c _ z)]; exact z) fun c xs z => by rw [back_out (out c _ z)]; exact z
theorem ub_back (K : Kept L H2) (k : HOk P w H2 h) (u : UB fs (less H2 L) H' h B h') : UB fs H2 (back H2 H' L) h B h' := by
  have out : ∀ c u, H2 c = some u → (∀ o, u ≠ ObO c o) → L.lookup c = none := fun c u z n => by
    cases q : L.lookup c with
    | none => rfl
    | some o =>
      rw [K c o q] at z
      exact absurd (Option.some.inj z).symm (n o)
  have o0 : ∀ c, H2 c = none → L.lookup c = none := fun c z => by
    cases q : L.lookup c with
    | none => rfl
    | some o => rw [K c o q] at z; cases z
  refine ⟨fun b o e n f => u.keep b o e (by rw [less_out (o0 b n)]; exact n) f, u.slot, fun b o e n => by rw [back_out (o0 b n)]; exact u.free b o e (by rw [less_out (o0 b n)]; exact n), u.there, fun b xs e => ?_, fun b ob xs e => ?_, fun b ps e => ?_⟩
  · have q := out b _ e fun o y => by unfold ObO at y; cases y
    rw [back_out q]
    exact u.tups b xs (by rw [less_out q]; exact e)
  · have q := out b _ e fun o y => by unfold ObO at y; cases y
    rw [back_out q]
    exact u.frzs b ob xs (by rw [less_out q]; exact e)
  · have q := out b _ e fun o y => by unfold ObO at y; cases y
    rw [back_out q]
    exact u.tbls b ps (by rw [less_out q]; exact e)
end
end
section
variable {P : Program} {w : World} {K : PySem.W.Frag} {mg : Str → Option Value} {base : Heap} {A : Around} {outer : List Env} {s s' : Shared} {H H2 : Hp} {L : Pins} {Q : VK} {E : XK}
theorem env0_plus (F : Free L H s.heap (frs outer)) (nb : ∀ b o, L.lookup b = some o → base.get? b = none) (e : Env0 P w K mg base A outer s H) : Env0 P w K mg base A outer s (plus H L) := by
  refine ⟨e.frames, e.mod, fun b o z => ⟨(e.bs b o z).1, ?_⟩, e.bsz, e.funs, fun b hb => ?_, hok_plus F e.hok, e.bare⟩
  · cases q : L.lookup b with
    | some o2 => rw [nb b o2 q] at z; cases z
    | none => rw [plus_out q]; exact (e.bs b o z).2
  · cases q : L.lookup b with
    | some o2 => exact absurd hb (F.fr b o2 q)
    | none => rw [plus_out q]; exact e.frf b hb
theorem env0_less (Kp : Kept L H2) (e : Env0 P w K mg base A outer s H2) : Env0 P w K mg base A outer s (less H2 L) := by
  refine ⟨e.frames, e.mod, fun b o z => ⟨(e.bs b o z).1, ?_⟩, e.bsz, e.funs, fun b hb => ?_, hok_less Kp e.hok, e.bare⟩
  · cases q : L.lookup b with
    | some o2 => exact less_in q
    | none => rw [less_out q]; exact (e.bs b o z).2
  · cases q : L.lookup b with
    | some o2 => exact less_in q
    | none => rw [less_out q]; exact e.frf b hb
/-- a call's end, told of the things that stood there before alone -/
theorem cr_less (F : Free L H s.heap (frs outer)) {r : Result} (h : CR (L2.CX P w) outer P w (plus H L) s (fun v H' => Kept L H' ∧ Q v (less H' L)) (fun c d H' => Kept L H' ∧ E c d (less H' L)) r s') : CR (L2.CX P w) outer P w H s Q E r s' := by
  cases r with
  | ok fl =>
    cases fl with
    | ret u =>
      obtain ⟨v, H', os, bare, un, hok, rv, kp, q⟩ := h
      exact ⟨v, less H' L, os, bare, un_less F kp hok un, hok_less kp hok, rv, q⟩
    | next | brk | cont => exact h
  | error e =>
    obtain ⟨a, B, H', cls, d, ea, fl, hok, ub, na, os, ag, kp, q⟩ := h
    refine ⟨a, B, less H' L, cls, d, ea, fl, hok_less kp hok, ub_less F kp hok ub, ?_, os, ag, q⟩
    cases z : L.lookup a with
    | some o => exact less_in z
    | none => rw [less_out z]; exact na
theorem cr_back (Kp : Kept L H2) (k : HOk P w H2 s.heap) (nf : ∀ b o, L.lookup b = some o → b ∉ frs outer) {r : Result} (h : CR (L2.CX P w) outer P w (less H2 L) s (fun v H' => Q v (back H2 H' L)) (fun c d H' => E c d (back H2 H' L)) r s') : CR (L2.CX P w) outer P w H2 s Q E r s' := by
  have at0 : ∀ b o, L.lookup b = some o → s.heap.get? b = some o := fun b o q => Kp.at_ k q
  cases r with
  | ok fl =>
    cases fl with
    | ret u =>
      obtain ⟨v, H', os, bare, un, hok, rv, q⟩ := h
      exact ⟨v, back H2 H' L, os, bare, un_back Kp k nf un, hok_back Kp k (fun b o z => un.free b o (at0 b o z) (less_in z) (by simp)) (fun b o z => un.keep b o (at0 b o z) (less_in z) (nf b o z) (by simp)) hok, rv, q⟩
    | next | brk | cont => exact h
  | error e =>
    obtain ⟨a, B, H', cls, d, ea, fl, hok, ub, na, os, ag, q⟩ := h
    have inB : ∀ b o, L.lookup b = some o → B.get? b = some o := fun b o z => ub.keep b o (at0 b o z) (less_in z) (nf b o z)
    refine ⟨a, B, back H2 H' L, cls, d, ea, fl, hok_back Kp k (fun b o z => ub.free b o (at0 b o z) (less_in z)) inB hok, ub_back Kp k ub, ?_, os, ag, q⟩
    cases z : L.lookup a with
    | some o =>
      have := inB a o z
      rw [fl.2.1] at this
      cases this
    | none => rw [back_out z]; exact na
end
/-- the callee runs, with some things tracked for it -/
theorem run_plus {X : Cx} {k : Nat} {f : Addr} {fd : FuncData} {ps : List Str} {sp : Sp} {pins : Pins} {σ : L2.St} {H : Hp} {s : Shared} {Q : VK} {E : XK} {us : List Value} {vs : List V} {L : Pins}
    (F : FnG X.prog X.w X.K X.mg X.base (L2.CX X.prog X.w) k f fd ps sp) (hr : Room k X.A) (hgd : X.A.guards = some []) (hb : Binds X.K fd ps [])
    (hx : PassesAt (L2.CX X.prog X.w) X σ E) (I : Inv X pins σ H s) (r : Vals vs us) (Fr : Free L H s.heap (frs X.stack)) (nb : ∀ b o, L.lookup b = some o → X.base.get? b = none)
    (h : sp vs (plus H L) (fun v H' => Kept L H' ∧ Q v (less H' L)) (fun c d H' => Kept L H' ∧ E c d (less H' L))) :
    wpAny (model X.prog X.w) X.A (call (.ref f) us) (EP X pins σ Q) X.xe s := by
  have hl : us.length = ps.length := r.length ▸ F.len _ _ _ _ h
  have b := hb s us I.kIn (by rw [List.append_nil]; exact hl)
  rw [List.append_nil] at b
  have main := F.run X.A X.stack s (plus H L) ⟨us, []⟩ us vs _ _ hr hgd (env0_plus Fr nb I.env0) b r h
  refine wpAny_call (codeAny_mono main ?_)
  intro res s' hq
  have hq := cr_less (Q := Q) (E := E) Fr hq
  cases res with
  | error er => exact hx pins H s er s' I hq
  | ok fl =>
    cases fl with
    | ret u => exact I.after hq
    | next | brk | cont => exact False.elim hq
end Py
/-! A lambda without parameters as a value: what a call of it gives. -/
namespace Py
open PySem PySem.Spec PyProof.Rows L2 Tc Px
open LamX (LamS lamCx lamEnv Tabs TabB ExtN CodeO TabS)
/-- what calling the function at a gives -/
structure ActS (P : Program) (w : World) (K : PySem.W.Frag) (mg : Str → Option Value) (base : Heap) (k : Nat) (H Hs : Hp) (a : Addr) (out : Out) : Prop where
  obj : ∃ oc od fd osl, H a = some (ObO a ⟨oc, od, .func fd, osl⟩)
  run : ∀ (A : Around) (outer : List Env) (s : Shared) (H2 Hs2 : Hp) (Q : VK) (E : XK), Room k A → A.guards = some [] → Env0 P w K mg base A outer s H2 → Same H H2 → Grow H Hs Hs2 → Same Hs2 H2 →
    (∀ v Hs' H', Same H2 H' → Same Hs' H' → Grow H2 Hs2 Hs' → out.to (fun d => Dv Hs' v d → Q v H') (fun C d => Dv Hs' v d → upE C v H' E)) →
    codeAny (model P w) A (.call (.ref a) ⟨[], []⟩) (CR (L2.CX P w) outer P w H2 s Q E) s
section
variable {X : Cx} {σ : L2.St} {HZ : Hp} {s1 : Shared}
theorem act_start {A : Around} {outer : List Env} {E : XK} {scope : Scope} {f c' : Addr} {h₁ : Heap} {tk : Nat} (ok : X.Ok) (L : LamS X.env.scope scope) (e0 : Env0 X.prog X.w X.K X.mg X.base A outer s1 HZ) (hd : A.handled = none) (len : σ.length = X.N.length)
    (cells : ∀ y, (y, NameKind.free) ∈ scope.names → ∃ c, X.env.cells.lookup y = some c ∧ HZ c = none ∧ ∃ v, s1.heap.IsCell c v)
    (slots : ∀ (i : Nat) (y : Str) (v : V), X.N[i]? = some y → σ[i]? = some (some v) → (y, NameKind.free) ∈ scope.names → ∃ c u, X.env.cells.lookup y = some c ∧ RelV v u ∧ s1.heap.IsCell c (some u))
    (hns : h₁.Ns s1.heap.objs.size fun y => ([] : List (Str × Value)).reverse.lookup y) (kp : ∀ b o, s1.heap.get? b = some o → h₁.get? b = some o) :
    Inv (lamCx X A outer s1 HZ E scope f c') [] σ HZ { s1 with heap := h₁, toks := tk } := by
  have at_ : ∀ {y c}, (cloFrom X.env.cells scope.names []).lookup y = some c → (y, NameKind.free) ∈ scope.names ∧ X.env.cells.lookup y = some c := fun {y c} e => by
    rcases cloFrom_mem (PySem.mem_of_lookup e) with z | ⟨z1, z2⟩
    · cases z
    · obtain ⟨c1, e1, _⟩ := cells _ z1
      refine ⟨z1, ?_⟩
      rw [z2, e1]
      rfl
  have has : ∀ {y}, (y, NameKind.free) ∈ scope.names → ∃ c, (cloFrom X.env.cells scope.names []).lookup y = some c := fun {y} hy => mem_lookup (cloFrom_has (cells := X.env.cells) (acc := []) hy)
  have up : ∀ {c : Addr} {v : Option Value}, s1.heap.IsCell c v → h₁.IsCell c v := fun {c v} ⟨o, ho, hd⟩ => ⟨o, kp _ _ ho, hd⟩
  have kinds : ∀ {y}, Vis scope y → (y, NameKind.free) ∈ scope.names ∧ scope.names.lookup y = some .free := fun {y} e => by
    rcases e with z | z | z
    · exact absurd rfl (L.own _ (PySem.mem_of_lookup z)).1
    · exact absurd rfl (L.own _ (PySem.mem_of_lookup z)).2
    · exact ⟨PySem.mem_of_lookup z, z⟩
  have none_ : ∀ b : Addr, b ∉ (lamCx X A outer s1 HZ E scope f c').ex := fun b z => absurd (show b ∈ ([] : List Addr) from z) (by simp)
  have okY : (lamCx X A outer s1 HZ E scope f c').Ok := {
    mod := e0.mod
    kind := L.kind
    glob := rfl
    blt := rfl
    above := Nat.le_refl _
    inj := fun x y c e1 e2 => ok.inj x y c (at_ e1).2 (at_ e2).2
    has := fun x hx => by
      have hx : scope.names.lookup x = some .cell ∨ scope.names.lookup x = some .free := hx
      exact has (kinds (hx.elim (fun z => .inr (.inl z)) fun z => .inr (.inr z))).1
    cab := fun x c z _ => by
      have z : false = true := z
      cases z
    hd := fun _ => hd
    frames := Around.frames_deeper e0.frames
    stk := .inr ⟨rfl, rfl⟩
    exf := fun b z => absurd z (none_ b)
    bs := e0.bs
    bsz := e0.bsz
    noex := fun b _ _ => none_ b
    exfs := fun b z => absurd z (none_ b)
    funs := e0.funs
    frf := e0.frf }
  refine ⟨okY, rfl, e0.bare, Un.kept kp, ⟨_, hns, fun i y v e1 e2 e3 => ?_⟩, fun y c e => ?_, e0.hok.fresh (Nat.le_refl _), fun y c e => ?_, fun q hq => absurd (show q ∈ ([] : List (Addr × Obj)) ++ [] from hq) (by simp), e0.hok.kept kp, len⟩
  · obtain ⟨hm, hl⟩ := kinds (show Vis scope y from e3)
    obtain ⟨c, u, e4, r, z⟩ := slots i y v e1 e2 hm
    obtain ⟨c2, h2⟩ := has hm
    have e5 := (at_ h2).2
    rw [e4] at e5
    cases e5
    exact ⟨u, r, .inr ⟨.inr hl, c, h2, up z⟩⟩
  · obtain ⟨hm, e1⟩ := at_ (show (cloFrom X.env.cells scope.names []).lookup y = some c from e)
    obtain ⟨c2, e2, _, v, z⟩ := cells y hm
    rw [e1] at e2
    cases e2
    exact ⟨v, up z⟩
  · obtain ⟨hm, e1⟩ := at_ (show (cloFrom X.env.cells scope.names []).lookup y = some c from e)
    obtain ⟨c2, e2, z, _⟩ := cells y hm
    rw [e1] at e2
    cases e2
    exact z
end
theorem takes_no {X : Cx} {W : WX} {L : Pins} (F : ∀ pins σ H s, Inv X pins σ H s → ∀ b o, L.lookup b = some o → H b = none) (tk : Takes X W) : Takes X (fun cls d σ H => (∀ b o, L.lookup b = some o → H b = none) → W cls d σ H) := fun u s' x => by
  obtain ⟨a, B, sI, pins, σ, H, cls, d, e, I, r1, r2, r3, r4, r5, r6, w⟩ := x
  exact tk u s' ⟨a, B, sI, pins, σ, H, cls, d, e, I, r1, r2, r3, r4, r5, r6, w (F _ _ _ _ I)⟩
theorem upd_back {H2 H' : Hp} {L : Pins} {dd : Addr} {u : HO} (h : L.lookup dd = none) : back H2 (upd H' dd u) L = upd (back H2 H' L) dd u := by
  funext b
  by_cases e : b = dd
  · subst e
    rw [back_out h, upd_same, upd_same]
  · rw [upd_ne e]
    cases q : L.lookup b with
    | some o => rw [back_in q, back_in q]
    | none => rw [back_out q, back_out q, upd_ne e]
/-- slots that hold data alone -/
def Flat (Γ : List Sl) : Prop := ∀ (i : Nat) (s : Sl), Γ[i]? = some s → s = .no ∨ ∃ x, s = .d x
theorem act_of {X : Cx} {k : Nat} {L : Pins} {Hc Hs : Hp} {σ : L2.St} {Γ : List Sl} {params : Arguments} {body : Expr} {scope : Scope} {f c' : Addr} {pm ctv : Value} {out : Out} (ok : X.Ok) (S : LamS X.env.scope scope)
    (hf : Hc f = some (ObO f (PySem.W.kla_obj "<lambda>" (X.env.qual ++ "<lambda>") params body scope (cloFrom X.env.cells scope.names []) pm c' ctv))) (hc : Hc c' = some (CodeO c' (X.env.qual ++ "<lambda>")))
    (hbind : bindArgs (PySem.W.kla_fn "<lambda>" (X.env.qual ++ "<lambda>") params body scope (cloFrom X.env.cells scope.names []) pm (.ref c') ctv) ⟨[], []⟩ = pure [])
    (KL : Kept L Hc) (len : σ.length = X.N.length) (lenG : σ.length = Γ.length) (fl : Flat Γ) (dat : ∀ (i : Nat) (x : PyData), Γ[i]? = some (.d x) → ∃ v, σ[i]? = some (some v) ∧ Dv Hs v x) (off : ∀ b o, L.lookup b = some o → Hs b = none)
    (cells : ∀ y, (y, NameKind.free) ∈ scope.names → ∃ c o v, X.env.cells.lookup y = some c ∧ L.lookup c = some o ∧ o.data = .cell v)
    (slots : ∀ (i : Nat) (y : Str) (v : V), X.N[i]? = some y → σ[i]? = some (some v) → (y, NameKind.free) ∈ scope.names → ∃ c o u, X.env.cells.lookup y = some c ∧ L.lookup c = some o ∧ o.data = .cell (some u) ∧ RelV v u)
    (judge : ∀ (A : Around) (outer : List Env) (s : Shared) (H : Hp) (E : XK) (B : Bas), Room k (lamCx X A outer s H E scope f c').A → (lamCx X A outer s H E scope f c').A.guards = some [] → Exc B (lamCx X A outer s H E scope f c') (fun C d _ => out = .up C d) →
      GE B (lamCx X A outer s H E scope f c') body Γ fun d _ => out = .ok d) : ActS X.prog X.w X.K X.mg X.base (k + 1) Hc Hs f out := by
  refine ⟨⟨_, _, _, _, hf⟩, fun A outer s H2 Hs2 Q E hr hgd e0 s2 g2 u2 q => ?_⟩
  have K2 : Kept L H2 := fun b o z => s2 _ _ (KL b o z)
  have at2 : ∀ b o, L.lookup b = some o → s.heap.get? b = some o := fun b o z => K2.at_ e0.hok z
  have nf : ∀ b o, L.lookup b = some o → b ∉ frs outer := fun b o z hb => by
    have := e0.frf b hb
    rw [K2 b o z] at this
    cases this
  have off2 : ∀ b o, L.lookup b = some o → Hs2 b = none := fun b o z => g2.off b (off b o z) (by rw [KL b o z]; exact fun y => nomatch y)
  have e1 := env0_less K2 e0
  have of1 : s.heap.get? f = some (PySem.W.kla_obj "<lambda>" (X.env.qual ++ "<lambda>") params body scope (cloFrom X.env.cells scope.names []) pm c' ctv) := by
    obtain ⟨z, _⟩ : s.heap.get? f = some _ ∧ _ := e0.hok f _ (s2 _ _ hf)
    exact z
  obtain ⟨⟨oc, vs, t, hoc, hdc, hvc⟩, _, _⟩ := e0.hok c' _ (s2 _ _ hc)
  have lim : s.heap.NoLimit := e0.mod.nolimit.keeps fun b o e => (e0.bs b o e).1
  refine codeAny_mono (?_ : codeAny (model X.prog X.w) A (.call (.ref f) ⟨[], []⟩) (CR (L2.CX X.prog X.w) outer X.prog X.w (less H2 L) s (fun v H' => Q v (back H2 H' L)) (fun c d H' => E c d (back H2 H' L))) s) fun r s' h => cr_back K2 e0.hok nf h
  refine PySem.W.kla_callFunE hr.depth of1 rfl S.co S.gen rfl ⟨c', oc, vs, t, rfl, hoc, hdc, hvc⟩ ?_
  rw [hbind]
  refine wpAny_pure (wpAny_newFunctionEnv (fun y hy => (S.own y hy).2) (fun y hy => absurd hy (by simp)) (fun h₁ hns hsb => ⟨lim.fresh _ hsb, ?_⟩) S.kind)
  show codeAny _ _ (.expr body (lamEnv X scope s.heap.objs.size f c')) _ _
  have kp : ∀ b o, s.heap.get? b = some o → h₁.get? b = some o := fun b o e => hsb.extBut b o (Nat.ne_of_lt (Heap.lt_size e)) (Heap.get?_push_of_some _ e)
  have J := act_start (f := f) (c' := c') (E := fun c d H' => E c d (back H2 H' L)) (tk := s.toks + ([] : List (Str × Value)).length) ok S e1 hr.hd len (fun y hy => by
      obtain ⟨c, o, v, z1, z2, z3⟩ := cells y hy
      exact ⟨c, z1, less_in z2, v, o, at2 c o z2, z3⟩) (fun i y v n1 n2 n3 => by
      obtain ⟨c, o, u, z1, z2, z3, z4⟩ := slots i y v n1 n2 n3
      exact ⟨c, u, z1, z4, o, at2 c o z2, z3⟩) hns kp
  have noL : ∀ (pins : Pins) (σ' : L2.St) (H' : Hp) (s' : Shared), Inv (lamCx X A outer s (less H2 L) (fun c d H' => E c d (back H2 H' L)) scope f c') pins σ' H' s' → ∀ b o, L.lookup b = some o → H' b = none := fun pins σ' H' s' I b o z => I.base.free b o (at2 b o z) (less_in z) (fun y => nomatch (show b ∈ ([] : List Addr) from y))
  -- what it gives, in the whole heap
  have give : ∀ {v : V} {Hs' H' : Hp} {σ' : L2.St} {Γ' : List Sl}, (∀ b o, L.lookup b = some o → H' b = none) → Same Hs2 Hs' → Sx ⟨less H2 L, Hs2, []⟩ Hs' σ' H' Γ' → Same H2 (back H2 H' L) ∧ Same Hs' (back H2 H' L) ∧ Grow H2 Hs2 Hs' := fun {v Hs' H' σ' Γ'} no s3 T => by
    have nd : ∀ b o, L.lookup b = some o → Hs' b = none := fun b o z => by
      cases y : Hs' b with
      | none => rfl
      | some u =>
        have := T.sub b u y
        rw [no b o z] at this
        cases this
    refine ⟨fun b u e => ?_, fun b u e => ?_, s3, fun b n nb => ?_⟩
    · cases z : L.lookup b with
      | some o => rw [back_in z]; exact e
      | none =>
        rw [back_out z]
        exact T.fr b u (by show less H2 L b = some u; rw [less_out z]; exact e)
    · cases z : L.lookup b with
      | some o => rw [nd b o z] at e; cases e
      | none => rw [back_out z]; exact T.sub b u e
    · cases z : L.lookup b with
      | some o => exact nd b o z
      | none => exact T.gr.off b n (by show less H2 L b ≠ none; rw [less_out z]; exact nb)
  have tk := takes_of (X := lamCx X A outer s (less H2 L) (fun c d H' => E c d (back H2 H' L)) scope f c') (E := fun c d H' => E c d (back H2 H' L)) rfl rfl rfl rfl
  have S0 : Sx ⟨less H2 L, Hs2, []⟩ Hs2 σ (less H2 L) Γ := by
    refine ⟨Same.refl _, Grow.refl _ _, fun b u e => ?_, lenG, fun i t h => ?_, fun i j b es c fs h1 h2 n => ?_, tabs_nil⟩
    · cases z : L.lookup b with
      | some o => rw [off2 b o z] at e; cases e
      | none => rw [less_out z]; exact u2 b u e
    · rcases fl i t h with rfl | ⟨x, rfl⟩
      · exact trivial
      · obtain ⟨v, e, d⟩ := dat i x h
        exact ⟨v, e, d.mono g2.same⟩
    · rcases fl i _ h1 with z | ⟨x, z⟩ <;> cases z
  have main := judge A outer s (less H2 L) (fun c d H' => E c d (back H2 H' L)) ⟨less H2 L, Hs2, []⟩ (hr.deeper _) hgd ⟨_, takes_no noL tk, fun C d Γ' v Hs' σ' H' e T dvv dd hdd no => ?_⟩ Hs2 σ (less H2 L) (fun v H' => (∀ b o, L.lookup b = some o → H' b = none) → Q v (back H2 H' L)) S0 (fun d Γ' v Hs' H' e s3 T dvv no => ?_)
  · refine PySem.W.kla_codeExpr (wpAny_mono (teE main [] _ J) (fun v s' hq => ?_) fun e s' hq => hq)
    obtain ⟨w', H', J', rv, z⟩ := hq
    exact ⟨w', H', J'.os, J'.bare, J'.base, J'.hok, rv, z (noL _ _ _ _ J')⟩
  · -- an error
    have ndd : L.lookup dd = none := by
      cases z : L.lookup dd with
      | none => rfl
      | some o =>
        have := no dd o z
        rw [upd_same] at this
        cases this
    have no' : ∀ b o, L.lookup b = some o → H' b = none := fun b o z => by
      have y := no b o z
      rw [upd_ne (fun r => by rw [r, ndd] at z; cases z)] at y
      exact y
    obtain ⟨k1, k2, k3⟩ := give (v := v) no' T.gr.same T
    have y := q v Hs' _ k1 k2 k3
    rw [show out = .up C d from e] at y
    show E _ _ (back H2 (upd H' dd _) L)
    rw [upd_back ndd]
    exact y dvv dd (by rw [back_out ndd]; exact hdd)
  · obtain ⟨k1, k2, k3⟩ := give (v := v) no s3 T
    have y := q v Hs' _ k1 k2 k3
    rw [show out = .ok d from e] at y
    exact y dvv
end Py
/-! A lambda is made: its object is tracked from then on. -/
namespace Py
open PySem PySem.Spec PyProof.Rows L2 Tc Px
open LamX (LamS lamCx lamEnv Tabs TabB ExtN CodeO TabS)
abbrev lamQ (X : Cx) : Str := X.env.qual ++ "<lambda>"
abbrev lamO (X : Cx) (params : Arguments) (body : Expr) (scope : Scope) (pm : Value) (c' : Addr) (ctv : Value) : Obj := PySem.W.kla_obj "<lambda>" (lamQ X) params body scope (cloFrom X.env.cells scope.names []) pm c' ctv
def tLamF (X : Cx) (T : List (Addr × Str)) (P : Addr) (params : Arguments) (body : Expr) (scope : Scope) : TE := fun _ H Q => Tabs T H ∧ ∀ (f c' : Addr) (pm ctv : Value) (H1 : Hp), (∀ b o, H b = some o → b ≠ P → H1 b = some o) → Tabs T H1 → H1 f = none → H1 c' = some (CodeO c' (lamQ X)) →
  Q (.ref f) (upd H1 f (ObO f (lamO X params body scope pm c' ctv)))
theorem tab_more {T : List (Addr × Str)} {H : Hp} {P c' : Addr} {q : Str} {ps : Array Value} {pos : Pos} (hT : Tabs T H) (hP : H P = some (.tbl ps)) (ht : TriplesOk ps.toList) (hu : ∀ p ∈ T, p.1 = P → p.2 = q)
    (ha : ∀ (pos : Pos) (cv : Value), codeAmong pos ps.toList = some cv → ∃ c, cv = .ref c ∧ H c = some (CodeO c q)) (nC : H c' = none) :
    (∀ b o, H b = some o → b ≠ P → upd (upd H P (.tbl (ps ++ #[rawInt pos.line, rawInt pos.col, .ref c']))) c' (CodeO c' q) b = some o) ∧ Tabs T (upd (upd H P (.tbl (ps ++ #[rawInt pos.line, rawInt pos.col, .ref c']))) c' (CodeO c' q)) := by
  have ext : ∀ b o, H b = some o → b ≠ P → upd (upd H P (.tbl (ps ++ #[rawInt pos.line, rawInt pos.col, .ref c']))) c' (CodeO c' q) b = some o := fun b o e b2 => by
    have b1 : b ≠ c' := fun z => by rw [z, nC] at e; cases e
    rw [upd_ne b1, upd_ne b2]
    exact e
  have cP : ∀ d, H d = some (CodeO d q) → d ≠ P := fun d e z => by
    rw [z, hP] at e
    unfold LamX.CodeO at e
    cases e
  have cP2 : ∀ d q2, H d = some (CodeO d q2) → d ≠ P := fun d q2 e z => by
    rw [z, hP] at e
    unfold LamX.CodeO at e
    cases e
  refine ⟨ext, fun p hp => ?_⟩
  by_cases z : p.1 = P
  · have e2 := hu p hp z
    rw [z, e2]
    have nPc : P ≠ c' := fun y => by rw [y, nC] at hP; cases hP
    have eL : (ps ++ #[rawInt pos.line, rawInt pos.col, .ref c']).toList = ps.toList ++ [rawInt pos.line, rawInt pos.col, .ref c'] := by simp
    refine ⟨_, by rw [upd_ne nPc, upd_same], by rw [eL]; exact PySem.TriplesOk_snoc _ _ _ _ ht, fun p2 cv y => ?_⟩
    rw [eL] at y
    rcases LamX.among_app _ ht y with k | k
    · obtain ⟨d, e3, e4⟩ := ha p2 cv k
      exact ⟨d, e3, ext _ _ e4 (cP d e4)⟩
    · exact ⟨c', k, upd_same⟩
  · obtain ⟨qs, y1, y2, y3⟩ := hT p hp
    have b1 : p.1 ≠ c' := fun z => by rw [z, nC] at y1; cases y1
    refine ⟨qs, by rw [upd_ne b1, upd_ne z]; exact y1, y2, fun p2 cv y => ?_⟩
    obtain ⟨d, e3, e4⟩ := y3 p2 cv y
    exact ⟨d, e3, ext _ _ e4 (cP2 d _ e4)⟩
theorem pe_lam {X : Cx} {T : List (Addr × Str)} {c P : Addr} {params : Arguments} {body : Expr} {scope : Scope} {pos : Pos} (TB : TabB X.base X.mg c P) (hcode : X.env.code = .ref c) (hm : (P, lamQ X) ∈ T) (hu : ∀ p ∈ T, p.1 = P → p.2 = lamQ X)
    (hdef : defaultsOf params X.env = ([], [])) (S : LamS X.env.scope scope) : PE X (.Lambda params body scope pos) (tLamF X T P params body scope) := by
  refine ⟨fun pins s σ H Q I h => ?_⟩
  obtain ⟨hT, h⟩ := h
  obtain ⟨ps, hP, ht, ha⟩ := hT _ hm
  have clo := closure_ok (S.has I.ok)
  have gl := I.mod.glob.keeps I.bk
  have cd := TB.code.keeps I.bk
  have bP := TB.bm.keeps I.bk
  have oP : s.heap.get? P = some { cls := .none, data := .fields ps } := I.hok P _ hP
  refine PySem.W.kla_eval hdef ?_
  cases hc : codeAmong pos ps.toList with
  | some cv =>
    obtain ⟨c', e, hco⟩ := ha pos cv hc
    subst e
    refine PySem.W.kla_makeFunctionHit (mg := X.mg) (c := c) (P := P) (ps := ps) clo I.ok.glob gl hcode cd oP ht hc bP fun ctv h' tk hx hsz => ?_
    have I1 : Inv X pins σ H { s with heap := h', toks := tk } := I.kept fun b o e => hx b o e
    have I2 := I1.laid (a := h'.objs.size) (o := ObO h'.objs.size (lamO X params body scope ((X.mg "__name__").getD .none) c' ctv)) (h' := h'.push (lamO X params body scope ((X.mg "__name__").getD .none) c' ctv)) (t' := tk) (fun b u e => Heap.get?_push_of_some _ e) (Nat.le_refl _) (obO_ok (Heap.get?_push_size _ rfl))
    exact ⟨.ref h'.objs.size, _, I2, rfl, h h'.objs.size c' _ ctv H (fun _ _ e _ => e) hT (I1.hok.fresh (Nat.le_refl _)) hco⟩
  | none =>
    refine PySem.W.kla_makeFunction (mg := X.mg) (c := c) (P := P) (ps := ps) clo I.ok.glob gl hcode cd oP ht hc TB.gP bP fun c' ctv h' tk hx hge hlt hrec htb => ?_
    obtain ⟨c2, oc, vs, t, e2, hoc, hd, hv⟩ := hrec
    cases e2
    have nC : H c' = none := I.hok.fresh hge
    have I1 := LamX.inv_table (t' := tk) (more := #[rawInt pos.line, rawInt pos.col, .ref c']) (h' := h') I hP (fun b o hb e => hx b o hb e) htb hge ⟨oc, vs, t, hoc, hd, hv⟩
    have I2 := I1.laid (a := h'.objs.size) (o := ObO h'.objs.size (lamO X params body scope ((X.mg "__name__").getD .none) c' ctv)) (h' := h'.push (lamO X params body scope ((X.mg "__name__").getD .none) c' ctv)) (t' := tk) (fun b u e => Heap.get?_push_of_some _ e) (Nat.le_refl _) (obO_ok (Heap.get?_push_size _ rfl))
    obtain ⟨ext, tabs⟩ := tab_more (pos := pos) hT hP ht hu ha nC
    exact ⟨.ref h'.objs.size, _, I2, rfl, h h'.objs.size c' _ ctv _ ext tabs (I1.hok.fresh (Nat.le_refl _)) upd_same⟩
end Py
/-! Values that are no data: a def gets them, calls them, walks a list of them; a caught exception as an argument. -/
namespace Py
open PySem PySem.Spec PyProof.Rows L2 Tc Px
theorem ActS.mono {P : Program} {w : World} {K : PySem.W.Frag} {mg : Str → Option Value} {base : Heap} {k : Nat} {H Hs H' Hs' : Hp} {a : Addr} {out : Out} (A : ActS P w K mg base k H Hs a out) (s : Same H H') (g : Grow H Hs Hs') : ActS P w K mg base k H' Hs' a out := by
  refine ⟨?_, fun A' outer st H2 Hs2 Q E hr hg e0 s2 g2 u2 q => A.run A' outer st H2 Hs2 Q E hr hg e0 (s.trans s2) (g.trans (g2.mono fun b nb => ?_)) u2 q⟩
  · obtain ⟨oc, od, fd, osl, h⟩ := A.obj
    exact ⟨oc, od, fd, osl, s _ _ h⟩
  · cases q : H b with
    | none => exact absurd q nb
    | some u =>
      rw [s b u q]
      exact fun z => nomatch z
/-- what a def gives of values -/
def spS (n : Nat) (pre : Hp → Hp → List V → Out → Prop) : Sp := fun vs H Q E => ∃ Hs out, Same Hs H ∧ vs.length = n ∧ pre H Hs vs out ∧
  ∀ v Hs' H', Same H H' → Same Hs' H' → Grow H Hs Hs' → out.to (fun d => Dv Hs' v d → Q v H') (fun C d => Dv Hs' v d → upE C v H' E)
theorem mapv_get {vs : List V} {i : Nat} {s : Sl} (h : (vs.map Sl.v)[i]? = some s) : ∃ v, vs[i]? = some v ∧ s = .v v := by
  rw [List.getElem?_map] at h
  cases q : vs[i]? with
  | none => rw [q] at h; cases h
  | some v => rw [q] at h; exact ⟨v, rfl, (Option.some.inj h).symm⟩
section
variable {P : Program} {w : World} {K : PySem.W.Frag} {mg : Str → Option Value} {base : Heap}
theorem fn_vals {x qual : Str} {st : Stmt} {f : Addr} {fd : FuncData} {N ps : List Str} {k : Nat} (F : Fun K x qual st f fd) (S : FnScope N ps (defScope st)) (sm : ∃ o, K.lookup sysModules = some o) (hl : ps.length ≤ N.length) (pre : Hp → Hp → List V → Out → Prop)
    (body : ∀ (cdv : Value) (A : Around) (outer : List Env) (s : Shared) (H : Hp) (E : XK) (B : Bas) (vs : List V) (out : Out), vs.length = ps.length → pre B.fr B.hs vs out →
      Bod (cxOf (L2.CX P w) P w K mg base N qual (defScope st) f cdv A outer s H E) k → Exc B (cxOf (L2.CX P w) P w K mg base N qual (defScope st) f cdv A outer s H E) (fun C d _ => out = .up C d) →
      Gs B (cxOf (L2.CX P w) P w K mg base N qual (defScope st) f cdv A outer s H E) (defBody st) (slots0 N (vs.map .v)) { nx := fun _ => out = .ok .none, rt := fun d _ => out = .ok d }) :
    FnG P w K mg base (L2.CX P w) (k + 1) f fd ps (spS ps.length pre) := by
  refine Fun.okG F S (fun vs H Q E h => ?_) (fun cdv A outer s H vs Q E hr hgd h => ?_)
  · obtain ⟨Hs, out, _, l, _⟩ := h
    exact l
  · obtain ⟨Hs, out, sub, l, hp, q⟩ := h
    have tk := takes_of (X := cxOf (L2.CX P w) P w K mg base N qual (defScope st) f cdv A outer s H E) (E := E) rfl rfl rfl rfl
    have S0 : Sx ⟨H, Hs, []⟩ Hs (L2.start N vs) H (slots0 N (vs.map .v)) := by
      refine ⟨Same.refl _, Grow.refl _ _, sub, ?_, fun i t h => ?_, fun i j a es b fs h1 h2 n => ?_, tabs_nil⟩
      · show (vs.map some ++ List.replicate _ none).length = (vs.map Sl.v ++ _).length
        simp only [List.length_append, List.length_map, List.length_replicate]
      · rcases slots_get h with rfl | h
        · exact trivial
        · obtain ⟨v, e, rfl⟩ := mapv_get h
          exact start_get e
      · rcases slots_get h1 with z | z
        · cases z
        · obtain ⟨d, _, z⟩ := mapv_get z
          cases z
    refine ⟨_, pss_W, body cdv A outer s H E ⟨H, Hs, []⟩ vs out l hp ⟨⟨hr, hgd, sm⟩, S.nd, rfl, PassesOwn.leaving⟩ ⟨_, tk, fun C d Γ v Hs' σ' H' e T dvv dd hdd => ?_⟩ _ Hs _ H ⟨fun Γ Hs' σ' H' e _ T => ?_, fun d Γ v Hs' σ' H' e _ T dvv => ?_, fun _ _ _ _ z => z.elim, fun _ _ _ _ z => z.elim⟩ S0⟩
    · have z := q v Hs' H' T.fr T.sub T.gr
      rw [e] at z
      exact z dvv dd hdd
    · have z := q .non Hs' H' T.fr T.sub T.gr
      have e : out = .ok .none := e
      rw [e] at z
      exact z .non
    · have z := q v Hs' H' T.fr T.sub T.gr
      have e : out = .ok d := e
      rw [e] at z
      exact z dvv
end
section
variable {B : Bas} {X : Cx} {Γ : List Sl} {pos : Pos} {k j n : Nat} {E : DE}
/-- a call x(), x a value that can be called -/
theorem act_e {i : Nat} {x : Str} {p : Pos} {a : Addr} {out : Out} {ψ : Addr → PyData → List Sl → Prop} {φ : PyData → List Sl → Prop} (A : ActS X.prog X.w X.K X.mg X.base j B.fr B.hs a out) (c : Cxt X k) (hj : Nat.ble j k = true) (ex : Exc B X ψ)
    (hN : idxS X.N x = some i) (hv : Sees X.env.scope x = true) (hΓ : Γ[i]? = some (.v (.ref a))) (h : out.to (fun d => φ d Γ) (fun C d => ψ C d Γ)) (hd : (x == ("__debug__" : Str)) = false) (hcd : (x == ("__classdict__" : Str)) = false) : GE B X (.Call (.Name x p) [] [] pos) Γ φ := fun Hs σ H Q S g => by
  obtain ⟨W, tk, hW⟩ := ex
  refine teI fun pins s I => ?_
  refine wpAny_Call_Name_kw (thn ((pe_var (pos := p) (idxS_ok hN) (sees_ok hv) hd hcd).run pins s σ H (fun v H1 => v = .ref a ∧ H1 = H) I ⟨.ref a, S.val hΓ, rfl, rfl⟩) fun u s1 ⟨v, H1, I1, r1, ev, eH⟩ => ?_)
  subst ev
  rw [eH] at I1
  obtain rfl : u = Value.ref a := r1
  obtain ⟨oc, od, fd, osl, ho⟩ := A.obj
  have of1 : s1.heap.get? a = some ⟨oc, od, .func fd, osl⟩ := by
    obtain ⟨z, _⟩ : s1.heap.get? a = some _ ∧ _ := I1.hok a _ (S.fr _ _ ho)
    exact z
  refine PySem.W.callWith_F0 ⟨_, _, _, _, of1⟩ ?_
  have main := A.run X.A X.stack s1 H Hs Q (fun cl d H' => W cl d σ H') (c.room.mono (Nat.le_of_ble_eq_true hj)) c.gd I1.env0 S.fr S.gr S.sub (fun v Hs2 H2 k1 k2 k3 => by
    obtain ⟨s2, S2⟩ := S.step k3 k1 k2
    cases e : out with
    | ok d =>
      rw [e] at h
      exact fun dd => g d Γ v Hs2 H2 h s2 S2 dd
    | up C d =>
      rw [e] at h
      exact fun dvv dd hdd => hW C d Γ v Hs2 σ H2 h S2 dvv dd hdd)
  refine wpAny_call (codeAny_mono main fun r s' hq => ?_)
  cases r with
  | error e => exact tk e s' (XE.of_call I1 (fun _ _ _ h => h) hq)
  | ok fl =>
    cases fl with
    | ret u => exact I1.after hq
    | next | brk | cont => exact False.elim hq
/-- a name whose value is known, as data -/
theorem name_vd {i : Nat} {x : Str} {v : V} {d : PyData} {φ : PyData → List Sl → Prop} (hN : idxS X.N x = some i) (hΓ : Γ[i]? = some (.v v)) (hv : Sees X.env.scope x = true) (dv : Dv B.hs v d) (h : φ d Γ) (hd : (x == ("__debug__" : Str)) = false) (hcd : (x == ("__classdict__" : Str)) = false) : GE B X (.Name x pos) Γ φ := fun Hs σ H Q S g =>
  pe_of (pe_var (idxS_ok hN) (sees_ok hv) hd hcd) ⟨v, S.val hΓ, g d Γ v Hs H h (Same.refl _) S (dv.mono S.gr.same)⟩
/-- a def of values is called with one of them -/
theorem call_v {i : Nat} {x y : Str} {p py : Pos} {ps : List Str} {v : V} {out : Out} {pre : Hp → Hp → List V → Out → Prop} {ψ : Addr → PyData → List Sl → Prop} {φ : PyData → List Sl → Prop} {P : Program} {w : World} {K : PySem.W.Frag} {mg : Str → Option Value} {base : Heap} (hX : SameX X P w K mg base)
    (F : Call P w K mg base (L2.CX P w) j x ps (spS 1 pre)) (c : Cxt X k) (hj : Nat.ble j k = true) (hg : Gl X x) (ex : Exc B X ψ)
    (hN : idxS X.N y = some i) (hv : Sees X.env.scope y = true) (hΓ : Γ[i]? = some (.v v)) (hp : ∀ H Hs, Same B.fr H → Grow B.fr B.hs Hs → pre H Hs [v] out) (h : out.to (fun d => φ d Γ) (fun C d => ψ C d Γ))
    (hdb : (x == ("__debug__" : Str)) = false) (hd : (y == ("__debug__" : Str)) = false) (hcd : (y == ("__classdict__" : Str)) = false)
    (he : starEach [.Name y py] X.env = (false, eval (.Name y py) X.env) :: starEach [] X.env) : GE B X (.Call (.Name x p) [.Name y py] [] pos) Γ φ := fun Hs σ H Q S g => by
  obtain ⟨rfl, rfl, rfl, rfl, rfl⟩ := hX
  obtain ⟨W, tk, hW⟩ := ex
  refine call_W F c (Nat.le_of_ble_eq_true hj) hg tk hdb he rfl (pa_of (pa_cons (pe_var (idxS_ok hN) (sees_ok hv) hd hcd) pa_nil he) ⟨v, S.val hΓ, ?_⟩)
  refine ⟨Hs, out, S.sub, rfl, hp H Hs S.fr S.gr, fun v Hs2 H2 k1 k2 k3 => ?_⟩
  obtain ⟨s2, S2⟩ := S.step k3 k1 k2
  cases e : out with
  | ok d =>
    rw [e] at h
    exact fun dd => g d Γ v Hs2 H2 h s2 S2 dd
  | up C d =>
    rw [e] at h
    exact fun dvv dd hdd => hW C d Γ v Hs2 σ H2 h S2 dvv dd hdd
/-! ### an exception that a def is given -/
end
end Py
namespace Py
open PySem PySem.Spec PyProof.Rows L2 Tc Px
/-- a walk of a list of values: x for x in y -/
theorem gf_acts {B : Bas} {X : Cx} {Γ : List Sl} {pos : Pos} {elt : Expr} {x y : Str} {xp yp : Pos} {scope : Scope} {ix iy : Nat} {L : Addr} {vs : List V} {F : Nat → PyData} {φ : List PyData → List Sl → Prop} {N : List Str} (calm : X.calm = true) (nd : N.Nodup) (eN : X.N = N) (eo : ownS N scope = [(x, ix)]) (ok : blkC N X.env.scope scope [(x, ix)] = true)
    (hN : idxS X.N y = some iy) (hv : Sees X.env.scope y = true) (hΓ : Γ[iy]? = some (.v (.ref L))) (hL : B.fr L = some (.lst vs)) (hl : vs.length ≤ sizeLine)
    (hx : idxS X.N x = some ix) (hlen : Nat.ble (ix + 1) Γ.length = true) (hloc : ∀ s H C cl fp, LocB (blkX X scope s H C cl fp).env.scope x = true)
    (h : (∀ i v, vs[i]? = some v → ∀ B' : Bas, Same B.fr B'.fr → Grow B.fr B.hs B'.hs → Blk X scope fun Y => GE B' Y elt ((clr Γ [ix]).set ix (.v v)) fun d Γ4 => d = F i ∧ clr Γ4 [ix] = clr Γ [ix]) ∧ φ ((List.range vs.length).map F) (clr Γ [ix]))
    (hd : (y == ("__debug__" : Str)) = false) (hcd : (y == ("__classdict__" : Str)) = false) (hfn : ∀ s H C cl fp, (blkX X scope s H C cl fp).fn x = true ∨ (blkX X scope s H C cl fp).env.scope.names.lookup x = some .local)
    (hs : ∀ z, foldedSetIterable (.Name y yp) X.env z = pure z) : GF B X (.ListComp elt [⟨.Name x xp, .Name y yp, [], 0⟩] scope pos) Γ φ := fun Hs σ H Q S g => by
  have ndX : X.N.Nodup := eN ▸ nd
  have okB : BlkOk X.N X.env.scope scope [(x, ix)] := blkOk_by (eN.symm ▸ ok)
  obtain ⟨step, fin⟩ := h
  refine pe_of (pe_lc (g := gName ix) (tt := fun σ H Q => Q true H) (te := teB X scope elt) calm ndX (pi_list (pe_var (idxS_ok hN) (sees_ok hv) hd hcd)) okB (fun s0 H0 C cl fp => pg_name (i := ix) ndX (idxS_ok hx) (locB_ok (hloc s0 H0 C cl fp)) (hfn s0 H0 C cl fp)) (fun s0 H0 C cl fp => pts_nil) (fun s0 H0 C cl fp => ⟨fun pins s _ _ _ I h => teE (h s0 H0 C cl fp) pins s I⟩) hs) ?_
  refine ⟨.ref L, S.val hΓ, L, rfl, ⟨vs, .inl (.inl (S.fr _ _ hL))⟩, fun D hD => ?_⟩
  obtain ⟨fD, nD, al⟩ := alone_new S hD
  refine lc_it (walk_list (K := X.K) (a := L) (xs := vs)) (g := gName ix) (tt := fun σ H Q => Q true H) (te := teB X scope elt) (vs := [ix]) (σ := σ) (Qd := fun H => Q (.ref D) H) (fun i H' => ∃ ws Hs', Same Hs Hs' ∧ Sx B Hs' σ H' (clr Γ [ix]) ∧ H' D = some (.lst ws) ∧ DvAll Hs' ws ((List.range i).map F) ∧ Hs' D = none) ⟨[], Hs, Same.refl _, (S.aside hD).clr rfl (fun _ _ => rfl), upd_same, .nil, nD⟩ ?_ ?_ ?_
  · rintro i H' hi ⟨ws, Hs', s', S', _⟩
    exact .inl (.inl (S'.fr _ _ hL))
  · rintro i v H' H'' hi ⟨ws, Hs', s', S', hD', dv, nD'⟩ ⟨rfl, hv⟩
    have al' : Alone (clr Γ [ix]) D := fun i b es e => al i b es (clr_some e fun z => nomatch z).2
    have SB := S'.hold hD' nD' fD al'
    have g0 : Grow B.fr B.hs Hs' := S'.gr
    have sF : Same B.fr (upd B.fr D (.lst ws)) := Same.new fD
    have lw : (wipe σ [ix]).length = σ.length := wipe_length _ _
    have S2w : Sx ⟨upd B.fr D (.lst ws), Hs', B.T⟩ Hs' (wipe σ [ix]) H'' (clr (clr Γ [ix]) [ix]) := SB.clr lw fun j hj => wipe_out hj
    rw [clr_clr] at S2w
    have S3 := S2w.putV (i := ix) (v := v) (by rw [clr_len]; exact Nat.le_of_ble_eq_true hlen)
    have w3 : wipe ((wipe σ [ix]).set ix (some v)) [ix] = wipe σ [ix] := wipe_eq (by rw [List.length_set, lw]) fun j hj => by
      rw [List.getElem?_set_ne fun z => hj (by rw [← z]; exact .head _)]
      exact wipe_out hj
    refine ⟨w3, iteT fun s0 H0 C cl fp => step i v hv ⟨upd B.fr D (.lst ws), Hs', B.T⟩ sF g0 s0 H0 C cl fp Hs' _ H'' _ S3 fun d Γ5 v5 Hs5 H5 ⟨ed, ec⟩ s5 S5 q5 => ?_⟩
    obtain ⟨l, e⟩ := wipe_same w3
    obtain ⟨Sb, hb, nb, ab⟩ := (S5.clr (vs := [ix]) l.symm fun j hj => (e j hj).symm).loose g0 fD nD'
    rw [ec] at Sb ab
    refine ⟨ws, hb, ?_, ws ++ [v5], Hs5, s'.trans s5, Sb.beside hb rfl nb fD ab, upd_same, ?_, nb⟩
    · rw [dv.len, List.length_map, List.length_range]
      exact Nat.lt_of_lt_of_le hi hl
    · rw [List.range_succ, List.map_append]
      have z := dvs_snoc (dv.mono s5) q5
      rw [ed] at z
      exact z
  · rintro H' ⟨ws, Hs', s', S', hD', dv, nD'⟩
    have al' : Alone (clr Γ [ix]) D := fun i b es e => al i b es (clr_some e fun z => nomatch z).2
    exact g _ _ D ws Hs' H' fin s' S' fD nD' al' hD' dv
end Py
/-! Further built-ins on data. -/
namespace Py
open PySem PySem.Spec PyProof.Rows L2 Tc Px
section
variable {B : Bas} {X : Cx} {Γ : List Sl} {pos ap : Pos} {k : Nat} {E : DE} {φ : PyData → List Sl → Prop} {a b : Expr}
abbrev Few (X : Cx) (cpos : Pos) (e : Expr) (es : List Expr) : Prop := ((backTo cpos (starEach (e :: es) X.env)).all (fun x => !x.1) && (backToKw cpos (keywordEach [] X.env)).all (fun x => x.1.isSome)
      && decide ((e :: es).length + ([] : List Keyword).length + (if ([] : List Keyword).isEmpty then 0 else 1) < 30)) = true
theorem ge_countB {k0 : Nat} {cp : Pos} (h : GE B X a Γ fun d Γ1 => ∃ bs : List Bool, d = .list (bs.map .bool) ∧ φ (.int ((bs.count true : Nat) : Int)) Γ1)
    (hb : attributeBase a "count" X.env (eval a X.env) = eval a X.env) (hf : Few X pos (.Constant (.bool true) k0 cp) []) (hl : (ap.endLine == pos.line) = true) (hs : starEach [.Constant (.bool true) k0 cp] X.env = (false, eval (.Constant (.bool true) k0 cp) X.env) :: starEach [] X.env) : GE B X (.Call (.Attribute a "count" ap) [.Constant (.bool true) k0 cp] [] pos) Γ φ := fun Hs σ H Q S g =>
  pe_of (pe_bm PySem.F.plainAttrs_list PySem.F.slot_list_count PySem.F.type_list_count mt_countB pe_W (pa_cons pe_bl pa_nil hs) hb hf hl hs rfl) (h Hs σ H _ S fun d Γ1 v Hs1 H1 ⟨bs, e, p⟩ s S1 q => by
    subst e
    cases q with
    | @lst l vs _ r dv =>
      have ev := dvs_bools dv
      subst ev
      have r1 := rdL (K := X.K) (rd_up S1.sub r)
      exact ⟨.inl ⟨rfl, _, r1⟩, l, bs, true, rfl, rfl, r1, g _ Γ1 _ Hs1 H1 p s S1 (.int _)⟩)
/-- s.index(t), t within s -/
theorem ge_sindex (calm : X.calm = true) (h : GE B X a Γ fun d Γ1 => ∃ z : Str, d = .str z ∧ GE B X b Γ1 fun d2 Γ2 => ∃ (y : Str) (n : Nat), d2 = .str y ∧ Txt.index0 z y = some n ∧ φ (.int (n : Int)) Γ2)
    (hb : attributeBase a "index" X.env (eval a X.env) = eval a X.env) (hf : Few X pos b []) (hl : (ap.endLine == pos.line) = true) (hs : starEach [b] X.env = (false, eval b X.env) :: starEach [] X.env) : GE B X (.Call (.Attribute a "index" ap) [b] [] pos) Γ φ := fun Hs σ H Q S g =>
  pe_of (pe_bmS PySem.F.plainAttrs_str PySem.F.slot_str_index PySem.F.type_str_index (mt_indexX (W := fun _ _ _ _ => False) calm takes0) pe_W (pa_cons pe_W pa_nil hs) hb hf hl hs rfl) (h Hs σ H _ S fun d Γ1 v Hs1 H1 ⟨z, e, p⟩ s1 S1 q1 => by
    subst e
    cases q1
    refine ⟨rfl, show teW X b σ H1 _ from p Hs1 σ H1 _ S1 fun d2 Γ2 w Hs2 H2 ⟨y, n, e2, hi, p2⟩ s2 S2 q2 => ?_⟩
    subst e2
    cases q2
    refine ⟨z, y, rfl, rfl, fun m hm => ?_, fun hm => ?_⟩
    · rw [hi] at hm
      cases hm
      exact g _ Γ2 _ Hs2 H2 p2 (s1.trans s2) S2 (.int _)
    · rw [hi] at hm
      cases hm)
theorem strs_flat : ∀ l : List Str, (l.map V.str).all flatV = true
  | [] => rfl
  | _ :: r => by rw [List.map_cons, List.all_cons, strs_flat r] <;> rfl
theorem eqV_str {x y : Str} : eqV (.str x) (.str y) = decide (x = y) := by
  by_cases e : x = y
  · subst e
    rw [decide_eq_true rfl]
    show (_ : Bool) = true
    simp [eqV]
  · rw [decide_eq_false e]
    simp [eqV, e]
/-- l.index(t), l a list of texts -/
theorem ge_lindex (h : GE B X a Γ fun d Γ1 => ∃ l : List Str, d = .list (l.map .str) ∧ GE B X b Γ1 fun d2 Γ2 => ∃ (y : Str) (n : Nat), d2 = .str y ∧ l[n]? = some y ∧ (∀ m z, m < n → l[m]? = some z → z ≠ y) ∧ φ (.int (n : Int)) Γ2)
    (hb : attributeBase a "index" X.env (eval a X.env) = eval a X.env) (hf : Few X pos b []) (hl : (ap.endLine == pos.line) = true) (hs : starEach [b] X.env = (false, eval b X.env) :: starEach [] X.env) : GE B X (.Call (.Attribute a "index" ap) [b] [] pos) Γ φ := fun Hs σ H Q S g =>
  pe_of (pe_bm PySem.F.plainAttrs_list PySem.F.slot_list_index PySem.F.type_list_index mt_index pe_W (pa_cons pe_W pa_nil hs) hb hf hl hs rfl) (h Hs σ H _ S fun d Γ1 v Hs1 H1 ⟨l, e, p⟩ s1 S1 q1 => by
    subst e
    cases q1 with
    | @lst p0 vs _ r dv =>
      have ev := dvs_strs dv
      subst ev
      refine ⟨.inl ⟨rfl, _, rdL (K := X.K) (rd_up S1.sub r)⟩, show teW X b σ H1 _ from p Hs1 σ H1 _ S1 fun d2 Γ2 w Hs2 H2 ⟨y, n, e2, hi, hm, p2⟩ s2 S2 q2 => ?_⟩
      subst e2
      cases q2
      refine ⟨p0, l.map V.str, .str y, n, .str y, rfl, rfl, rdL (K := X.K) (rd_up S2.sub (rd_up s2 r)), rfl, strs_flat l, by rw [List.getElem?_map, hi] <;> rfl, by rw [eqV_str, decide_eq_true rfl], fun m z hlt ez => ?_, g _ Γ2 _ Hs2 H2 p2 (s1.trans s2) S2 (.int _)⟩
      rw [List.getElem?_map] at ez
      cases q : l[m]? with
      | none => rw [q] at ez; cases ez
      | some t =>
        rw [q] at ez
        cases ez
        rw [eqV_str]
        exact decide_eq_false (hm m t hlt q))
/-- x.append(e), x a list of one's own -/
theorem g1_append {i : Nat} {x : Str} {xp : Pos} {e : Expr} {spos : Pos} {ad : Addr} {ds0 : List PyData} (hN : idxS X.N x = some i) (hΓ : Γ[i]? = some (.own ad ds0)) (hv : Sees X.env.scope x = true)
    (h : GE B X e Γ fun d Γ1 => ∃ ds, Γ1[i]? = some (.own ad ds) ∧ ds.length < sizeLine ∧ E.nx (Γ1.set i (.own ad (ds ++ [d]))))
    (hd : (x == ("__debug__" : Str)) = false) (hcd : (x == ("__classdict__" : Str)) = false)
    (hb : attributeBase (.Name x xp) "append" X.env (eval (.Name x xp) X.env) = eval (.Name x xp) X.env) (hf : Few X pos e []) (hl : (ap.endLine == pos.line) = true) (hs : starEach [e] X.env = (false, eval e X.env) :: starEach [] X.env)
    (hw : swapsWith (.Call (.Attribute (.Name x xp) "append" ap) [e] [] pos) none spos.line X.env = pure false) : G1 B X (.Expr (.Call (.Attribute (.Name x xp) "append" ap) [e] [] pos) spos) Γ E := fun D Hs σ H R S =>
  ps_of (ps_expr (pe_bm PySem.F.plainAttrs_list PySem.F.slot_list_append PySem.F.type_list_append mt_append (pe_var (idxS_ok hN) (sees_ok hv) hd hcd) (pa_cons pe_W pa_nil hs) hb hf hl hs rfl) hw) (by
    obtain ⟨e1, _, _, vs, hv1, _⟩ := S.lst hΓ
    refine ⟨_, e1, .inl ⟨rfl, _, .inl (.inl hv1)⟩, show teW X e σ H _ from h Hs σ H _ S fun d Γ1 v Hs1 H1 ⟨ds, g1, hz, p⟩ s S1 q => ?_⟩
    obtain ⟨_, _, _, ws, hw1, dv⟩ := S1.lst g1
    exact ⟨ad, ws, v, rfl, rfl, hw1, by rw [dv.len]; exact hz, R.nx _ Hs1 σ _ p s (S1.upd g1 (dvs_snoc dv q))⟩)
/-- sorted of a few texts -/
theorem gf_sortS {x : Str} {p : Pos} {χ : List PyData → List Sl → Prop} (hx : x = "sorted") (hg : Gl X x) (hm : X.mg x = none) (h : GE B X a Γ fun d Γ1 => ∃ l : List Str, d = .list (l.map .str) ∧ l.length < 64 ∧ ∀ ys : List Str, ys.Perm l → sortedS ys = true → χ (ys.map .str) Γ1) (he : starEach [a] X.env = (false, eval a X.env) :: starEach [] X.env) : GF B X (.Call (.Name x p) [a] [] pos) Γ χ := fun Hs σ H Q S g => by
  subst hx
  exact pe_of (pe_callB cr_sortedS hg hm (by decide +kernel) (pa_cons pe_W pa_nil he) (he := he)) (show teW X a σ H _ from h Hs σ H _ S fun d Γ1 v Hs1 H1 ⟨l, e, hl, p⟩ s S1 q => by
    subst e
    cases q with
    | @lst p0 vs _ r dv =>
      have ev := dvs_strs dv
      subst ev
      refine ⟨p0, l, rfl, rdL (K := X.K) (rd_up S1.sub r), hl, fun ys q pm so hq => ?_⟩
      obtain ⟨f, n, al⟩ := alone_new S1 hq
      exact g _ Γ1 q _ Hs1 _ (p ys pm so) s (S1.aside hq) f n al upd_same (dvs_of_strs _))
/-- != of a list and the empty one -/
theorem op_neL {k : Nat} (c : Cxt X k) : OpR X (compareOp .NotEq) (fun x y H Q => ∃ a b xs, x = .ref a ∧ y = .ref b ∧ Rd H a (.lst xs) ∧ Rd H b (.lst []) ∧ Q (.bl (!xs.isEmpty)) H) := by
  intro pins s σ H x y v u Q I rx ry h
  obtain ⟨a, b, xs, rfl, rfl, ha, hb, q⟩ := h
  cases rx
  cases ry
  obtain ⟨its, r1, p1, _⟩ := I.list (rdL (K := X.K) ha)
  obtain ⟨its2, r2, p2, _⟩ := I.list (rdL (K := X.K) hb)
  cases r2
  have un : X.A.units < cLine := by have := c.room.units; omega
  have fin : ∀ t, t = (!xs.isEmpty) → EP X pins σ Q (.bool t) s := fun t e => ⟨.bl t, H, I, rfl, by rw [e]; exact q⟩
  cases xs with
  | nil =>
    cases r1
    exact SeqAt.RcNeAt.lists (e := fun _ => true) p1.isList p2.isList rfl un (fun j h1 _ => absurd h1 (by simp)) _ _ _ _ (fin _ rfl)
  | cons z zs =>
    cases r1 with
    | cons r rs =>
      exact SeqAt.RcNeAt.lists_lengths p1.isList p2.isList (by simp) un _ _ _ _ (fin _ rfl)
theorem gt_neL {k : Nat} {lp : Pos} {ψ : Bool → List Sl → Prop} (c : Cxt X k) (h : GE B X a Γ fun d Γ1 => ∃ xs, d = .list xs ∧ ψ (!xs.isEmpty) Γ1) : GT B X (.Compare a [.NotEq] [.List [] lp] pos) Γ ψ := fun Hs σ H Q S g =>
  pt_of (pt_cmpR (op_neL c) pe_W (pe_lst pa_nil) (nomark _)) (h Hs σ H _ S fun d Γ1 v Hs1 H1 ⟨xs, e, p⟩ s S1 q => by
    subst e
    cases q with
    | @lst p0 vs _ r dv =>
      refine ⟨by show 0 ≤ sizeLine; decide, fun q hq => ⟨p0, q, vs, rfl, rfl, rd_up (S1.aside (o := .lst []) hq).sub r, .inl upd_same, !vs.isEmpty, rfl, ?_⟩⟩
      have e : vs.isEmpty = xs.isEmpty := by
        have := dv.len
        cases vs <;> cases xs <;> first | rfl | cases this
      rw [e]
      exact g _ Γ1 Hs1 _ p s (S1.aside hq))
end
end Py
namespace Py
open PySem PySem.Spec PyProof.Rows L2 Tc Px
end Py
/-! A call with some things tracked for it; try: .. except (A, B, C) as e: return word(e). -/
namespace Py
open PySem PySem.Spec PyProof.Rows L2 Tc Px
open L2H (RoomH PinOk cxH inv_startH)
theorem Sx.re {B : Bas} {Hs : Hp} {σ : L2.St} {H : Hp} {Γ : List Sl} (S : Sx B Hs σ H Γ) : Sx ⟨B.fr, Hs, B.T⟩ Hs σ H Γ := ⟨S.fr, Grow.refl _ _, S.sub, S.len, S.sl, S.ap, S.tb⟩
theorem Sx.un {B : Bas} {Hs Hs' : Hp} {σ : L2.St} {H : Hp} {Γ : List Sl} (g : Grow B.fr B.hs Hs) (S : Sx ⟨B.fr, Hs, B.T⟩ Hs' σ H Γ) : Sx B Hs' σ H Γ := ⟨S.fr, g.trans S.gr, S.sub, S.len, S.sl, S.ap, S.tb⟩
theorem call_plus {X : Cx} {j k : Nat} {x : Str} {p pos : Pos} {e : Expr} {es : List Expr} {ps : List Str} {sp : Sp} {E : XK} (F : Call X.prog X.w X.K X.mg X.base (L2.CX X.prog X.w) j x ps sp) (hr : Room k X.A) (hgd : X.A.guards = some []) (hj : j ≤ k) (hg : Gl X x)
    (hdb : (x == ("__debug__" : Str)) = false) (he : starEach (e :: es) X.env = (false, eval e X.env) :: starEach es X.env) (hpl : (backTo pos (starEach es X.env)).any (·.1) = false)
    {σ : L2.St} {H : Hp} {Q : VK} (hx : PassesAt (L2.CX X.prog X.w) X σ E)
    (h : taW X (e :: es) σ H fun vs H1 => ∀ (pins : Pins) (s : Shared), Inv X pins σ H1 s → ∃ L : Pins, Free L H1 s.heap (frs X.stack) ∧ (∀ b o, L.lookup b = some o → X.base.get? b = none) ∧ sp vs (plus H1 L) (fun v H' => Kept L H' ∧ Q v (less H' L)) (fun c d H' => Kept L H' ∧ E c d (less H' L))) : teW X (.Call (.Name x p) (e :: es) [] pos) σ H Q := teI fun pins s I => by
  obtain ⟨f, fd, G, hm, hk, hb⟩ := F.ex
  refine wpAny_Call_Name_kw (ld_glob I hg hm ?_ hdb)
  refine PySem.W.callWith_K (h₀ := X.base) I.ok.mod.kin hk (thn (taE h pos pins s I) ?_) he hpl
  rintro us s1 ⟨vs, H1, I1, r, q⟩
  obtain ⟨L, fr, nb, z⟩ := q pins s1 I1
  exact ⟨I1.kIn, run_plus G (hr.mono hj) hgd hb hx I1 r fr nb z⟩
theorem pass_never {X : Cx} {σ : L2.St} : PassesAt (L2.CX X.prog X.w) X σ (fun _ _ _ => False) := fun pins H s e s' I c => by
  obtain ⟨_, _, _, _, _, _, _, _, _, _, _, _, h⟩ := c
  exact h.elim
/-! ### a def that an except suite calls with its exception -/
/-- the exception at a, pinned: of the class C, it keeps d -/
structure ExP (K : PySem.W.Frag) (pn : Pins) (F Hs : Hp) (a C : Addr) (d : PyData) : Prop where
  ex : ∃ (oe : Obj) (dd : Addr) (v : V), (a, oe) ∈ pn ∧ Zc (.ref C) (some dd) oe ∧ (∃ vs, oe.data = .fields vs) ∧ F dd = some (.xd [("given", v)]) ∧ Dv Hs v d
  cl : ExA K C
  no : PySem.W.findIn K (.ref C) "given" = some none
def rIsP (K : PySem.W.Frag) (pn : Pins) : List V → Hp → VK → Prop := fun xs H Q => ∃ (a C dd : Addr) (oe : Obj) (fs : List (Str × V)) (c : V) (cv : Value) (b : Bool),
  xs = [.ref a, c] ∧ (a, oe) ∈ pn ∧ Zc (.ref C) (some dd) oe ∧ (∃ vs, oe.data = .fields vs) ∧ H dd = some (.xd fs) ∧ ExA K C ∧ ClsV c cv ∧ PySem.W.kitOne K (.ref C) cv = some b ∧ Q (.bl b) H
theorem call_isP {X : Cx} : CallR X (.builtin "isinstance") (rIsP X.K X.pn) := by
  intro pins s σ H xs us Q I r h
  obtain ⟨a, C, dd, oe, fs, c, cv, b, rfl, hp, hz, ⟨vs, hv⟩, hd, T, hc, e, q⟩ := h
  cases r with
  | cons rx rr =>
    cases rr with
    | cons rt rr =>
      cases rr
      cases rx
      have ec := hc.eq rt
      subst ec
      have ob := (I.pin (a, oe) (List.mem_append_left _ hp)).1
      have hx : ObjOk X.prog X.w H s.heap dd (.xd fs) := I.hok dd _ hd
      obtain ⟨mA, hns, _⟩ := hx
      obtain ⟨od, ho, _⟩ := lookIn_ns hns
      have J : PySem.W.InstAt s.heap a oe C (some od) := ⟨ob, hz.1, by unfold PySem.W.notCls; rw [hv] <;> rfl, by rw [hz.2]; exact ho⟩
      have cl : (PySem.W.clsIn X.K C).isSome = true := by
        obtain ⟨cd, hcd, _⟩ := PySem.W.any_some T.own
        rw [hcd]
        rfl
      refine PySem.W.kia_one (PySem.W.kitx_exc cl T.ga T.gg T.ex T.kc T.sn T.tk T.mo) I.kIn J e (fun z => nomatch z) fun tk => ?_
      exact ⟨.bl b, H, I.kept (t' := tk) fun _ _ z => z, rfl, q⟩
section
variable {B : Bas} {X : Cx} {Γ : List Sl} {pos : Pos} {φ : PyData → List Sl → Prop} {i : Nat} {x y z : Str} {p py pz : Pos} {a C D : Addr} {d : PyData} {b : Bool} {K : PySem.W.Frag} {pn : Pins}
theorem isi_p {c : V} {cv : Value} (eK : X.K = K) (eP : X.pn = pn) (T : ExP K pn B.fr B.hs a C d) (hx : x = "isinstance") (hg : Gl X x) (hm : X.mg x = none)
    (hN : idxS X.N y = some i) (hv : Sees X.env.scope y = true) (hΓ : Γ[i]? = some (.v (.ref a))) (pc : PE X (.Name z pz) (tC c)) (hc : ClsV c cv) (kit : PySem.W.kitOne K (.ref C) cv = some b) (h : φ (.bool b) Γ)
    (hd : (y == ("__debug__" : Str)) = false) (hcd : (y == ("__classdict__" : Str)) = false) : GE B X (.Call (.Name x p) [.Name y py, .Name z pz] [] pos) Γ φ := fun Hs σ H Q S g => by
  subst hx
  subst eK
  subst eP
  obtain ⟨oe, dd, v, h1, h2, h3, h4, h5⟩ := T.ex
  exact pe_of (pe_callB call_isP hg hm (by decide +kernel) (pa_cons (pe_var (idxS_ok hN) (sees_ok hv) hd hcd) (pa_cons pc pa_nil))) ⟨_, S.val hΓ, a, C, dd, oe, _, c, cv, b, rfl, h1, h2, h3, S.fr _ _ h4, T.cl, hc, kit, g _ Γ _ Hs H h (Same.refl _) S (.bl _)⟩
theorem isp_own (eK : X.K = K) (eP : X.pn = pn) (T : ExP K pn B.fr B.hs a C d) (hx : x = "isinstance") (hg : Gl X x) (hm : X.mg x = none) (hN : idxS X.N y = some i) (hv : Sees X.env.scope y = true) (hΓ : Γ[i]? = some (.v (.ref a))) (gz : Gl X z) (mz : X.mg z = some (.ref D)) (kit : PySem.W.kitOne K (.ref C) (.ref D) = some b) (h : φ (.bool b) Γ)
    (hd : (y == ("__debug__" : Str)) = false) (hcd : (y == ("__classdict__" : Str)) = false) (hz : (z == ("__debug__" : Str)) = false) : GE B X (.Call (.Name x p) [.Name y py, .Name z pz] [] pos) Γ φ := isi_p eK eP T hx hg hm hN hv hΓ (pe_glob (v := .ref D) gz mz rfl hz) (.own D) kit h hd hcd
theorem isp_ty {n : String} (eK : X.K = K) (eP : X.pn = pn) (T : ExP K pn B.fr B.hs a C d) (hx : x = "isinstance") (hg : Gl X x) (hm : X.mg x = none) (hN : idxS X.N y = some i) (hv : Sees X.env.scope y = true) (hΓ : Γ[i]? = some (.v (.ref a))) (gz : Gl X z) (mz : X.mg z = none) (bz : bootBuiltins z = some (.type n)) (kit : PySem.W.kitOne K (.ref C) (.type n) = some b) (h : φ (.bool b) Γ)
    (hd : (y == ("__debug__" : Str)) = false) (hcd : (y == ("__classdict__" : Str)) = false) (hz : (z == ("__debug__" : Str)) = false) (nz : z ≠ "__name__") : GE B X (.Call (.Name x p) [.Name y py, .Name z pz] [] pos) Γ φ := isi_p eK eP T hx hg hm hN hv hΓ (pe_bltn (v := .ty n) gz mz bz rfl nz hz) (.ty n) kit h hd hcd
theorem given_p (eK : X.K = K) (eP : X.pn = pn) (T : ExP K pn B.fr B.hs a C d) (hN : idxS X.N y = some i) (hv : Sees X.env.scope y = true) (hΓ : Γ[i]? = some (.v (.ref a))) (h : φ d Γ)
    (hd : (y == ("__debug__" : Str)) = false) (hcd : (y == ("__classdict__" : Str)) = false) (hb : attributeBase (.Name y py) "given" X.env (eval (.Name y py) X.env) = eval (.Name y py) X.env) : GE B X (.Attribute (.Name y py) "given" pos) Γ φ := fun Hs σ H Q S g => by
  subst eK
  subst eP
  obtain ⟨oe, dd, v, h1, h2, ⟨vs, h3⟩, h4, h5⟩ := T.ex
  refine teI fun pins s I => ?_
  refine attr_of hb (thn ((pe_var (pos := py) (idxS_ok hN) (sees_ok hv) hd hcd).run pins s σ H (fun v H1 => v = .ref a ∧ H1 = H) I ⟨.ref a, S.val hΓ, rfl, rfl⟩) fun u s1 ⟨v1, H1, I1, r1, ev, eH⟩ => ?_)
  subst ev
  rw [eH] at I1
  obtain rfl : u = Value.ref a := r1
  have ob := (I1.pin (a, oe) (List.mem_append_left _ h1)).1
  have hx : ObjOk X.prog X.w H s1.heap dd (.xd [("given", v)]) := I1.hok dd _ (S.fr _ _ h4)
  obtain ⟨mA, hns, hr⟩ := hx
  obtain ⟨od, ho, hl⟩ := lookIn_ns hns
  obtain ⟨u, hu, ru⟩ := RelO.some_of (v := v) (o := mA "given") (by
    have z := hr "given"
    rw [show List.lookup ("given" : Str) [(("given" : Str), v)] = some v by simp [List.lookup]] at z
    exact z)
  have J : PySem.W.InstAt s1.heap a oe C (some od) := ⟨ob, h2.1, by unfold PySem.W.notCls; rw [h3] <;> rfl, by rw [h2.2]; exact ho⟩
  exact HandSPX.exc_get I1.kIn J T.cl.ga T.cl.gg T.cl.ex (PySem.W.findObj_own T.cl.own T.no rfl (by rw [hl, hu])) (handed_of ru) ⟨v, H, I1.tok _, ru, g d Γ v Hs H h (Same.refl _) S (h5.mono S.gr.same)⟩
/-- name = e, where nothing but the names is known of what stands around -/
theorem set_u {N : List Str} {E : DE} (nd : N.Nodup) (eN : X.N = N) {e : Expr} {pos' : Pos} (hi : idxS X.N x = some i) (hx : X.env.scope.names.lookup x = some .local) (h : GE B X e Γ fun d Γ1 => Nat.ble (i + 1) Γ1.length = true ∧ E.nx (Γ1.set i (.d d)))
    (hs : swapsWith e (some (.Name x pos')) pos.line X.env = pure false) : G1 B X (.Assign [.Name x pos'] e pos) Γ E := fun D Hs σ H R S =>
  ps_of (ps_set (eN ▸ nd) (idxS_ok hi) (.inl hx) pe_W hs (.inr hx)) (h Hs σ H _ S fun d Γ1 v Hs1 H1 ⟨l, p⟩ s S1 q => R.nx _ Hs1 _ H1 p s (S1.putD (Nat.le_of_ble_eq_true l) q))
theorem op_neU (u : X.A.units + 64 < cLine) (sm : ∃ o, X.K.lookup sysModules = some o) : OpR X (compareOp .NotEq) rNeA := by
  intro pins s σ H x y v w Q I rx ry h
  rcases h with h | ⟨d, e, hd, he, sd, se, q⟩
  · exact op_ne pins s σ H x y v w Q I rx ry h
  · obtain ⟨as, r1, _⟩ := hd.reads I (sm_none sm I) v rx
    obtain ⟨bs, r2, _⟩ := he.reads I (sm_none sm I) w ry
    exact SeqAt.compareNe_shaped r1 r2 sd se u ⟨.bl _, H, I, rfl, q⟩
theorem gt_neU {e f : Expr} {ψ : Bool → List Sl → Prop} (eK : X.K = K) (u : X.A.units + 64 < cLine) (sm : ∃ o, K.lookup sysModules = some o) (h : GE B X e Γ fun d1 Γ1 => GB B X f Γ1 fun d2 Γ2 => NeD d1 d2 fun c => ψ c Γ2) : GT B X (.Compare e [.NotEq] [f] pos) Γ ψ := gt_cmp (op_neU u (eK ▸ sm)) NeD sem_ne (nomark _) h
end
/-- what such a def promises; its exception is at p -/
structure FnE (P : Program) (w : World) (K : PySem.W.Frag) (mg : Str → Option Value) (base : Heap) (k : Nat) (f : Addr) (fd : FuncData) (ps : List Str) (sp : Addr × Obj → Sp) : Prop where
  len : ∀ p vs H Q E, sp p vs H Q E → vs.length = ps.length
  run : ∀ (A : Around) (outer : List Env) (s : Shared) (H : Hp) (args : Args) (us : List Value) (vs : List V) (Q : VK) (E : XK) (p : Addr × Obj), RoomH k A → PinOk outer H s p → Env0 P w K mg base A outer s H → BindsTo s fd args (ps.zip us) → Vals vs us → sp p vs H Q E →
    codeAny (model P w) A (.call (.ref f) args) (CR (L2.CX P w) outer P w H s Q E) s
structure CallE (P : Program) (w : World) (K : PySem.W.Frag) (mg : Str → Option Value) (base : Heap) (k : Nat) (x : Str) (ps : List Str) (sp : Addr × Obj → Sp) : Prop where
  ex : ∃ f fd, FnE P w K mg base k f fd ps sp ∧ mg x = some (.ref f) ∧ PySem.W.keepIn K (.ref f) = true ∧ Binds K fd ps []
section
variable {P : Program} {w : World} {K : PySem.W.Frag} {mg : Str → Option Value} {base : Heap}
theorem Fun.okE {x qual : Str} {st : Stmt} {f : Addr} {fd : FuncData} {N ps : List Str} {k : Nat} {sp : Addr × Obj → Sp} (F : Fun K x qual st f fd) (S : FnScope N ps (defScope st))
    (len : ∀ p vs H Q E, sp p vs H Q E → vs.length = ps.length)
    (hbody : ∀ (cdv : Value) (A : Around) (outer : List Env) (s : Shared) (H : Hp) (vs : List V) (Q : VK) (E : XK) (p : Addr × Obj), RoomH k (A.deeper (envOfC qual (defScope st) s.heap.objs.size f cdv)) → sp p vs H Q E →
      ∃ t, PSs (cxH (L2.CX P w) P w K mg base N qual (defScope st) f cdv A outer s H E p) (defBody st) t ∧ t { nx := fun _ H' => Q .non H', rt := Q } (L2.start N vs) H) :
    FnE P w K mg base (k + 1) f fd ps sp := by
  obtain ⟨oc, od, kV, doc, pm, an, cdv, ct, osl, rfl, lk, hcd⟩ := F.ex
  refine ⟨len, ?_⟩
  intro A outer s H args us vs Q E p hr pk e0 hb r hsp
  have vl := len _ _ _ _ _ hsp
  have kin : K.In s.heap := e0.mod.kin.keeps (fun b o e => (e0.bs b o e).1)
  have nlim : s.heap.NoLimit := e0.mod.nolimit.keeps (fun b o e => (e0.bs b o e).1)
  have kinds : ∀ y ∈ ps.zip us, (defScope st).names.lookup y.1 = some .local ∨
      ((defScope st).names.lookup y.1 = some .cell ∧
        ((cellsFrom (s.heap.objs.size + 1) (defScope st).names []).lookup y.1).isSome = true) := by
    rintro ⟨n, v⟩ hy
    cases S.par n (List.of_mem_zip hy).1 with
    | inl q => exact .inl q
    | inr q => exact .inr ⟨q, PySem.W.cellsFrom_some _ _ _ (.inl q)⟩
  refine codeAny_call_function hr.depth (kin _ _ lk) rfl S.co S.gen rfl
    (PySem.W.codeRec_of kin hcd) (hb _ _ _ _ ?_)
  refine wpAny_newFunctionEnv_cells S.kind kinds (fun env he s1 x => ?_)
  subst he
  refine ⟨nlim.keeps x.toInCall.keep, codeAny_func ?_⟩
  obtain ⟨t, ht, hq⟩ := hbody cdv A outer s H vs Q E p (hr.deeper _) hsp
  have I := inv_startH (CX := L2.CX P w) (P := P) (w := w) (mg := mg) (base := base) (E := E) S pk e0 vl r x
  refine wpAny_mono (ht.run [] s1 (start N vs) H _ I hq) (fun fl s' hs => ?_) (fun e s' hs => hs)
  have close : ∀ {σ' : L2.St} {H' : Hp} {v : V} {u : Value},
      Inv (cxH (L2.CX P w) P w K mg base N qual (defScope st) f cdv A outer s H E p) [] σ' H' s' →
      RelV v u → Q v H' → CE outer P w H s Q u s' := by
    intro σ' H' v u J rv q
    exact ⟨v, H', J.os, J.bare, J.base, J.hok, rv, q⟩
  cases fl with
  | ret u => obtain ⟨v, σ', H', J, rv, q⟩ := hs; exact close J rv q
  | next => obtain ⟨σ', H', J, q⟩ := hs; exact close (v := V.non) (u := Value.none) J rfl q
  | brk => obtain ⟨_, _, _, q⟩ := hs; exact False.elim q
  | cont => obtain ⟨_, _, _, q⟩ := hs; exact False.elim q
/-- of an exception, what it gives as data -/
def spE (pre : Pins → Hp → Hp → Addr → PyData → Prop) : Addr × Obj → Sp := fun p vs H Q _ => ∃ (Hs : Hp) (d : PyData), Same Hs H ∧ vs = [.ref p.1] ∧ pre [p] H Hs p.1 d ∧
  ∀ v Hs' H', Same H H' → Same Hs' H' → Grow H Hs Hs' → Dv Hs' v d → Q v H'
theorem fn_exc {x qual : Str} {st : Stmt} {f : Addr} {fd : FuncData} {N : List Str} {pr : Str} {k : Nat} (F : Fun K x qual st f fd) (S : FnScope N [pr] (defScope st)) (hl : 1 ≤ N.length) (pre : Pins → Hp → Hp → Addr → PyData → Prop)
    (body : ∀ (cdv : Value) (A : Around) (outer : List Env) (s : Shared) (H : Hp) (E : XK) (p : Addr × Obj) (B : Bas) (d : PyData), pre [p] B.fr B.hs p.1 d → (cxH (L2.CX P w) P w K mg base N qual (defScope st) f cdv A outer s H E p).A.units + 64 < cLine →
      Gs B (cxH (L2.CX P w) P w K mg base N qual (defScope st) f cdv A outer s H E p) (defBody st) (slots0 N [.v (.ref p.1)]) { nx := fun _ => False, rt := fun r _ => r = d }) :
    FnE P w K mg base (k + 1) f fd [pr] (spE pre) := by
  refine Fun.okE F S (fun p vs H Q E h => ?_) (fun cdv A outer s H vs Q E p hr h => ?_)
  · obtain ⟨Hs, d, _, rfl, _⟩ := h
    rfl
  · obtain ⟨Hs, d, sub, rfl, hp, q⟩ := h
    have S0 : Sx ⟨H, Hs, []⟩ Hs (L2.start N [.ref p.1]) H (slots0 N [.v (.ref p.1)]) := by
      refine ⟨Same.refl _, Grow.refl _ _, sub, ?_, fun i t h => ?_, fun i j a es b fs h1 h2 n => ?_, tabs_nil⟩
      · show ([V.ref p.1].map some ++ List.replicate _ none).length = ([Sl.v (.ref p.1)] ++ _).length
        simp only [List.length_append, List.length_map, List.length_replicate, List.length_cons, List.length_nil]
      · rcases slots_get h with rfl | h
        · exact trivial
        · match i, h with
          | 0, h =>
            cases h
            exact start_get rfl
      · rcases slots_get h1 with z | z
        · cases z
        · match i, z with
          | 0, z => cases z
    have un : (cxH (L2.CX P w) P w K mg base N qual (defScope st) f cdv A outer s H E p).A.units + 64 < cLine := by
      have := hr.un
      show (A.deeper _).units + 64 < _
      omega
    exact ⟨_, pss_W, body cdv A outer s H E p ⟨H, Hs, []⟩ d hp un _ Hs _ H ⟨fun _ _ _ _ z => z.elim, fun r Γ v Hs' σ' H' e _ T dvv => by
      have e : r = d := e
      subst e
      exact q v Hs' H' T.fr T.sub T.gr dvv, fun _ _ _ _ z => z.elim, fun _ _ _ _ z => z.elim⟩ S0⟩
end
section
variable {B : Bas} {X : Cx} {Γ : List Sl} {E : DE} {x1 x2 x3 n wd pr : Str} {c1 c2 c3 : Value} {i kk j k : Nat} {body : List Stmt} {p1 p2 p3 tp pos pos' rp cp wp np : Pos}
/-- try: body, except (A, B, C) as e: return word(e) -/
theorem g1_tryW {pre : Pins → Hp → Hp → Addr → PyData → Prop} {ψ : Addr → PyData → List Sl → Prop} (c : Cxt X k) (hs : X.stack = X.env :: X.outer) (hf : X.env.frame = some X.env.locals) (hN : X.N.Nodup) (hi : X.N[i]? = some n) (hln : X.env.kindOf n = some .local)
    (g1 : Gl X x1) (m1 : X.mg x1 = some c1) (g2 : Gl X x2) (m2 : X.mg x2 = some c2) (g3 : Gl X x3) (m3 : X.mg x3 = some c3)
    (F : CallE X.prog X.w X.K X.mg X.base j wd [pr] (spE pre)) (hj : j ≤ k) (hg : Gl X wd) (hvn : Vis X.env.scope n)
    (hb : ∀ (Hs : Hp) (pn : Pins) (xe : Value → Shared → Prop), Grow B.fr B.hs Hs → PassesOwn (model X.prog X.w) X.A X.env xe → Exc ⟨B.fr, Hs, B.T⟩ (X.tr pn xe) ψ → Gs ⟨B.fr, Hs, B.T⟩ (X.tr pn xe) body Γ { nx := E.nx, rt := E.rt })
    (hw : ∀ C d Γ', ψ C d Γ' → PySem.W.exmAny X.K (.ref C) [c1, c2, c3] = some true ∧ ExA X.K C ∧ PySem.W.findIn X.K (.ref C) "given" = some none ∧ ∃ o, (∀ pn F Hs a, ExP X.K pn F Hs a C d → pre pn F Hs a o) ∧ E.rt o Γ')
    (d1 : (x1 == ("__debug__" : Str)) = false) (d2 : (x2 == ("__debug__" : Str)) = false) (d3 : (x3 == ("__debug__" : Str)) = false) (dw : (wd == ("__debug__" : Str)) = false) (dn : (n == ("__debug__" : Str)) = false) (dn2 : (n == ("__classdict__" : Str)) = false)
    (hst : ∀ a pn, starEach [.Name n np] (X.suite a pn).env = (false, eval (.Name n np) (X.suite a pn).env) :: starEach [] (X.suite a pn).env) :
    G1 B X (.Try body [.ExceptHandler (some (.Tuple [.Name x1 p1, .Name x2 p2, .Name x3 p3] kk tp)) (some n) [.Return (some (.Call (.Name wd wp) [.Name n np] [] cp)) rp] pos'] [] [] pos) Γ E := fun D Hs σ H R S => by
  refine ps_of (ps_try_as3 (i := i) (n := n) (tb := fun W D σ H => ∀ (pn : Pins) (xe : Value → Shared → Prop), Takes (X.tr pn xe) W → PassesOwn (model X.prog X.w) X.A X.env xe → tssW (X.tr pn xe) body D σ H)
    (ts := fun a cls d D σ H => ∀ (oe : Obj) (pn : Pins), Zc cls d oe → (∃ vs, oe.data = .fields vs) → tssW (X.suite a ((a, oe) :: pn)) [.Return (some (.Call (.Name wd wp) [.Name n np] [] cp)) rp] D σ H)
    hs hf hN hi hln g1 m1 g2 m2 g3 m3 (fun W pn xe tk po => ⟨fun pins s σ H D I h => tssE (h pn xe tk po) pins s I⟩) (fun a oe cls d pn hz hf => ⟨fun pins s σ H D I h => tssE (h oe pn hz hf) pins s I⟩) d1 d2 d3) ?_
  intro pn xe tk po
  refine hb Hs pn xe S.gr po ⟨_, tk, fun C d Γ' v Hs' σ' H' e T0 dv dd hdd => ?_⟩ D Hs σ H ⟨fun Γ1 Hs1 σ1 H1 p s1 S1 => R.nx Γ1 Hs1 σ1 H1 p s1 (Sx.un S.gr S1), fun d1 Γ1 v1 Hs1 σ1 H1 p s1 S1 q1 => R.rt d1 Γ1 v1 Hs1 σ1 H1 p s1 (Sx.un S.gr S1) q1, fun _ _ _ _ z => z.elim, fun _ _ _ _ z => z.elim⟩ (Sx.re S)
  have s0 : Same Hs Hs' := T0.gr.same
  have T := Sx.un S.gr T0
  obtain ⟨ec, ea, ef, o, hp, ho⟩ := hw C d Γ' e
  refine ⟨ec, fun a ha oe pn hz hf => ?_⟩
  have T1 := T.aside (o := .xd [("given", v)]) hdd
  refine pss_of (pss_one (ps_ret pe_W)) ?_
  refine teI fun pins s I => ?_
  obtain ⟨f, fd, G, hm, hk, hbd⟩ := F.ex
  refine wpAny_Call_Name_kw (ld_glob (X := X.suite a ((a, oe) :: pn)) I hg hm ?_ dw)
  have sl : (σ'.set i (some (V.ref a)))[i]? = some (some (V.ref a)) := List.getElem?_set_self (by
    have l1 := I.len
    rw [List.length_set] at l1
    rw [l1]
    exact (List.getElem?_eq_some_iff.mp hi).1)
  refine PySem.W.callWith_K (h₀ := X.base) I.ok.mod.kin hk (thn ((pa_cons (pe_var (i := i) (X := X.suite a ((a, oe) :: pn)) hi hvn dn dn2) pa_nil (hst _ _)).run cp pins s _ _ (fun vs H1 => vs = [.ref a] ∧ H1 = upd H' dd (.xd [("given", v)])) I ⟨.ref a, sl, rfl, rfl⟩) ?_) (hst _ _) rfl
  rintro us s1 ⟨vs, H1, I1, r, ev, eH⟩
  subst ev
  subst eH
  refine ⟨I1.kIn, ?_⟩
  have hl : us.length = 1 := r.length.symm
  have b := hbd s1 us I1.kIn (by rw [List.append_nil]; exact hl)
  rw [List.append_nil] at b
  have P1 := I1.pin (a, oe) (List.mem_append_left _ List.mem_cons_self)
  have pk : PinOk X.stack (upd H' dd (.xd [("given", v)])) s1 (a, oe) := ⟨P1.1, P1.2.1, fun hm => (List.mem_cons.mp (I1.stkSub a hm)).elim P1.2.2.1 P1.2.2.2.1, P1.2.2.2.2⟩
  have rh : RoomH j (X.suite a ((a, oe) :: pn)).A := by
    have r1 := c.room.dp
    have r2 := c.room.un
    refine ⟨?_, ?_⟩
    · show X.A.depth + 3 * j + 5 < _
      omega
    · show X.A.units + 16 * j + 200 < _
      omega
  have main := G.run (X.suite a ((a, oe) :: pn)).A X.stack s1 (upd H' dd (.xd [("given", v)])) ⟨us, []⟩ us [.ref a] D.rt (fun _ _ _ => False) (a, oe) rh pk I1.env0 b r
    ⟨Hs', o, T1.sub, rfl, hp _ _ _ _ ⟨⟨oe, dd, v, List.mem_cons_self, hz, hf, upd_same, dv⟩, ea, ef⟩, fun v2 Hs2 H2 k1 k2 k3 dv2 => by
      obtain ⟨s2, S2⟩ := T1.step k3 k1 k2
      exact R.rt o Γ' v2 Hs2 σ' H2 ho (s0.trans s2) S2 dv2⟩
  refine wpAny_call (codeAny_mono main ?_)
  intro res s' hq
  cases res with
  | error er =>
    obtain ⟨_, _, _, _, _, _, _, _, _, _, _, _, h⟩ := hq
    exact h.elim
  | ok fl =>
    cases fl with
    | ret u => exact I1.after hq
    | next | brk | cont => exact False.elim hq
end
end Py
/-! list * int; how long what repr shows is. -/
namespace Py
open PySem PySem.Spec PyProof.Rows L2 Tc Px
section
variable {B : Bas} {X : Cx} {Γ : List Sl} {pos : Pos} {φ : List PyData → List Sl → Prop} {a b : Expr}
theorem gf_rep (h : GF B X a Γ fun ds Γ1 => ∀ B' : Bas, Same B.fr B'.fr → Grow B.fr B.hs B'.hs → GE B' X b Γ1 fun d Γ2 => ∃ k : Int, d = .int k ∧ (0 ≤ k ∧ k ≤ 1000) ∧ ds.length ≤ 1000 ∧ φ (List.replicate k.toNat ds).flatten Γ2) : GF B X (.BinOp a .Mult b pos) Γ φ := fun Hs σ H Q S g =>
  pe_of (pe_op op_rep pe_W pe_W) (h Hs σ H _ S fun ds Γ1 p vs Hs1 H1 hB s1 S1 f n al hp dv => by
    have SB := S1.hold hp n f al
    refine hB ⟨upd B.fr p (.lst vs), Hs1, B.T⟩ (Same.new f) S1.gr Hs1 σ H1 _ SB fun d Γ2 v2 Hs2 H2 ⟨k, e, hk, hl, hφ⟩ s2 S2 q2 => ?_
    subst e
    cases q2
    obtain ⟨Sb, hb, nb, ab⟩ := S2.loose S1.gr f n
    have z : vs.length * k.toNat ≤ sizeLine := by
      rw [dv.len]
      refine Nat.le_trans (Nat.mul_le_mul hl (show k.toNat ≤ 1000 by omega)) (by decide)
    refine ⟨p, k, vs, rfl, rfl, hb, by omega, by omega, z, fun q hq => ?_⟩
    obtain ⟨f2, n2, al2⟩ := alone_new Sb hq
    exact g _ Γ2 q _ Hs2 _ hφ (s1.trans s2) (Sb.aside hq) f2 n2 al2 upd_same (dvs_rep (dv.mono s2) _))
end
/-! ### what repr shows -/
def GN (n k : Nat) (d : PyData) : Prop := d.showable = true ∧ d.depth ≤ k ∧ d.shown.length ≤ n
instance (n k : Nat) (d : PyData) : Decidable (GN n k d) := by unfold GN; exact inferInstance
theorem GN.mono {n k m l : Nat} {d : PyData} (h : GN n k d) (h1 : n ≤ m) (h2 : k ≤ l) : GN m l d := ⟨h.1, Nat.le_trans h.2.1 h2, Nat.le_trans h.2.2 h1⟩
theorem GN.good {n k : Nat} {d : PyData} (h : GN n k d) (h1 : n ≤ 1000000) (h2 : k ≤ 100) : Good d := ⟨h.1, Nat.le_trans h.2.1 h2, Nat.le_trans h.2.2 (Nat.le_trans h1 (by decide))⟩
theorem all_gn {n k : Nat} : ∀ {ds : List PyData}, (∀ d ∈ ds, GN n k d) → PyData.showableAll ds = true ∧ PyData.depthAll ds ≤ k ∧ piled (PyData.shownAll ds) ≤ ds.length * (n + 2)
  | [], _ => ⟨rfl, Nat.zero_le _, Nat.zero_le _⟩
  | d :: r, h => by
    obtain ⟨a1, a2, a3⟩ := h d List.mem_cons_self
    obtain ⟨b1, b2, b3⟩ := all_gn (ds := r) fun e he => h e (List.mem_cons_of_mem _ he)
    refine ⟨?_, ?_, ?_⟩
    · show (PyData.showable d && PyData.showableAll r) = true
      rw [a1, b1] <;> rfl
    · show max (PyData.depth d) (PyData.depthAll r) ≤ k
      omega
    · show piled (PyData.shown d :: PyData.shownAll r) ≤ _
      rw [piled_cons, List.length_cons, Nat.add_mul]
      omega
theorem from_le : ∀ (ts : List Str) (k : Nat) (acc : Str), (textFrom k acc ts).length ≤ acc.length + piled ts
  | [], k, acc => Nat.le_add_right _ _
  | t :: r, k, acc => by
    have ih := from_le r (k + 1) (acc ++ (if k > 0 then ", " else "" : String) ++ t)
    show (textFrom (k + 1) (acc ++ (if k > 0 then ", " else "" : String) ++ t) r).length ≤ _
    rw [piled_cons]
    have e : (acc ++ (if k > 0 then ", " else "" : String) ++ t : Str).length ≤ acc.length + 2 + t.length := by
      rw [Str.length_append, Str.length_append]
      have : (Str.ofString (if k > 0 then ", " else "" : String)).length ≤ 2 := by
        split <;> decide
      omega
    omega
theorem gn_list {n k : Nat} {ds : List PyData} (h : ∀ d ∈ ds, GN n k d) : GN (ds.length * (n + 2) + 2) (k + 1) (.list ds) := by
  obtain ⟨a1, a2, a3⟩ := all_gn h
  refine ⟨a1, Nat.succ_le_succ a2, ?_⟩
  show (textFrom 0 "[" (PyData.shownAll ds) ++ "]" : Str).length ≤ _
  rw [Str.length_append]
  have z := from_le (PyData.shownAll ds) 0 "["
  have e1 : (Str.ofString "[").length = 1 := by decide
  have e2 : (Str.ofString "]").length = 1 := by decide
  omega
theorem gn_tup {n k : Nat} {ds : List PyData} (h : ∀ d ∈ ds, GN n k d) : GN (ds.length * (n + 2) + 3) (k + 1) (.tuple ds) := by
  obtain ⟨a1, a2, a3⟩ := all_gn h
  refine ⟨a1, Nat.succ_le_succ a2, ?_⟩
  show (("(" : Str) ++ Str.join ", " (PyData.shownAll ds) ++ (if (PyData.shownAll ds).length == 1 then ",)" else ")" : String)).length ≤ _
  rw [Str.length_append, Str.length_append]
  have e1 : (Str.ofString "(").length = 1 := by decide
  have e2 : (Str.ofString (if (PyData.shownAll ds).length == 1 then ",)" else ")" : String)).length ≤ 2 := by split <;> decide
  have e3 : (Str.join ", " (PyData.shownAll ds)).length ≤ piled (PyData.shownAll ds) := by
    by_cases z : PyData.shownAll ds = []
    · rw [z]
      decide
    · have := join_length_add _ z
      omega
  omega
theorem gn_int {i : Int} (h0 : -1 ≤ i) (h1 : i ≤ 100000) : GN 13 0 (.int i) := by
  have f := Fine.int h0 h1
  exact ⟨f.sh, f.dp, of_decide_eq_true f.short⟩
end Py
namespace Py
open PySem PySem.Spec PyProof.Rows L2 Tc Px
/-- the length of a list of values -/
theorem len_v {B : Bas} {X : Cx} {Γ : List Sl} {pos : Pos} {φ : PyData → List Sl → Prop} {i : Nat} {x y : Str} {p py : Pos} {L : Addr} {vs : List V} (hx : x = "len") (hg : Gl X x) (hm : X.mg x = none) (hN : idxS X.N y = some i) (hv : Sees X.env.scope y = true) (hΓ : Γ[i]? = some (.v (.ref L))) (hL : B.fr L = some (.lst vs)) (h : φ (.int vs.length) Γ)
    (he : starEach [.Name y py] X.env = (false, eval (.Name y py) X.env) :: starEach [] X.env) (hd : (y == ("__debug__" : Str)) = false) (hcd : (y == ("__classdict__" : Str)) = false) : GE B X (.Call (.Name x p) [.Name y py] [] pos) Γ φ := fun Hs σ H Q S g => by
  subst hx
  exact pe_of (pe_callB call_len hg hm (by decide +kernel) (pa_cons (pe_var (idxS_ok hN) (sees_ok hv) hd hcd) pa_nil he) (he := he)) ⟨_, S.val hΓ, _, vs.length, rfl, .inl ⟨vs, .inl (.inl (S.fr _ _ hL)), rfl⟩, g _ Γ _ Hs H h (Same.refl _) S (.int _)⟩
end Py
/-! Two names at once; lists by tests; comprehensions that change something; numbers that add up. -/
namespace Py
open PySem PySem.Spec PyProof.Rows L2 Tc Px
section
variable {B : Bas} {X : Cx} {Γ : List Sl} {pos : Pos} {k : Nat} {E : DE} {N : List Str}
/-- x, y = a, b -/
theorem par_n {i j : Nat} {x y : Str} {a b : Expr} {px py pt : Pos} {kt k2 : Nat} {pt2 : Pos} (c : Bod X k) (nd : N.Nodup) (eN : X.N = N) (hi : idxS X.N x = some i) (hj : idxS X.N y = some j) (hij : Nat.beq i j = false)
    (hx : X.env.scope.names.lookup x = some .local) (hy : X.env.scope.names.lookup y = some .local)
    (hw : swappedStores [.Tuple [.Name x px, .Name y py] kt pt] (.Tuple [a, b] k2 pt2) X.env = pure (some [x, y])) (hs : swapsWithSole [.Tuple [.Name x px, .Name y py] kt pt] (.Tuple [a, b] k2 pt2) pos.line X.env = pure false)
    (h : GA B X [a, b] Γ fun ds Γ1 => ∃ d e, ds = [d, e] ∧ Nat.ble (i + 1) Γ1.length = true ∧ Nat.ble (j + 1) Γ1.length = true ∧ E.nx ((Γ1.set i (.d d)).set j (.d e))) : G1 B X (.Assign [.Tuple [.Name x px, .Name y py] kt pt] (.Tuple [a, b] k2 pt2) pos) Γ E := fun D Hs σ H R S =>
  ps_of (ps_par c.calm (eN ▸ nd) (idxS_ok hi) (idxS_ok hj) (Nat.ne_of_beq_eq_false hij) hx hy pa_W hw hs) (h Hs σ H _ S fun ds Γ1 vs Hs1 H1 ⟨d, e, ed, l1, l2, p⟩ s S1 dv => by
    subst ed
    cases dv with
    | cons a1 r =>
    cases r with
    | cons a2 r =>
    cases r
    refine ⟨_, _, rfl, R.nx _ Hs1 _ H1 p s ((S1.putD (Nat.le_of_ble_eq_true l1) a1).putD (by rw [List.length_set]; exact Nat.le_of_ble_eq_true l2) a2)⟩)
/-- x, y = a, b; y a list of its own -/
theorem par_no {i j : Nat} {x y : Str} {a b : Expr} {px py pt : Pos} {kt k2 : Nat} {pt2 : Pos} (c : Bod X k) (nd : N.Nodup) (eN : X.N = N) (hi : idxS X.N x = some i) (hj : idxS X.N y = some j) (hij : Nat.beq i j = false)
    (hx : X.env.scope.names.lookup x = some .local) (hy : X.env.scope.names.lookup y = some .local)
    (hw : swappedStores [.Tuple [.Name x px, .Name y py] kt pt] (.Tuple [a, b] k2 pt2) X.env = pure (some [x, y])) (hs : swapsWithSole [.Tuple [.Name x px, .Name y py] kt pt] (.Tuple [a, b] k2 pt2) pos.line X.env = pure false)
    (h1 : starEach [a, b] X.env = (false, eval a X.env) :: starEach [b] X.env) (h2 : starEach [b] X.env = (false, eval b X.env) :: starEach [] X.env)
    (h : GE B X a Γ fun d Γ1 => GF B X b Γ1 fun ds Γ2 => Nat.ble (i + 1) Γ2.length = true ∧ Nat.ble (j + 1) Γ2.length = true ∧ ∀ ad, Alone Γ2 ad → E.nx ((Γ2.set i (.d d)).set j (.own ad ds))) : G1 B X (.Assign [.Tuple [.Name x px, .Name y py] kt pt] (.Tuple [a, b] k2 pt2) pos) Γ E := fun D Hs σ H R S =>
  ps_of (ps_par c.calm (eN ▸ nd) (idxS_ok hi) (idxS_ok hj) (Nat.ne_of_beq_eq_false hij) hx hy (pa_cons pe_W (pa_cons pe_W pa_nil h2) h1) hw hs) (show teW X a σ H _ from h Hs σ H _ S fun d Γ1 v Hs1 H1 p s1 S1 q1 => show teW X b σ H1 _ from p Hs1 σ H1 _ S1 fun ds Γ2 l vs Hs2 H2 ⟨l1, l2, p2⟩ s2 S2 f n al ha dv => by
    have S3 := S2.putD (Nat.le_of_ble_eq_true l1) (q1.mono s2)
    have al3 : Alone (Γ2.set i (.d d)) l := fun m b es e => by
      rcases get_set e with ⟨_, z⟩ | ⟨_, e⟩
      · cases z
      · exact al m b es e
    exact ⟨_, _, rfl, R.nx _ Hs2 _ H2 (p2 l al) (s1.trans s2) (S3.putL (by rw [List.length_set]; exact Nat.le_of_ble_eq_true l2) f n ha dv al3)⟩)
/-- [..] if c else [..] -/
theorem gf_if {t a b : Expr} {φ : List PyData → List Sl → Prop} (h : GT B X t Γ fun u Γ1 => if u = true then GF B X a Γ1 φ else GF B X b Γ1 φ) : GF B X (.IfExp t a b pos) Γ φ := fun Hs σ H Q S g =>
  pe_of (pe_ifExp pt_W pe_W pe_W) (h Hs σ H _ S fun u Γ1 Hs1 H1 p s1 S1 => by
    cases u with
    | true =>
      have p : GF B X a Γ1 φ := p
      exact iteT (p Hs1 σ H1 Q S1 fun ds Γ2 l vs Hs2 H2 p2 s2 => g ds Γ2 l vs Hs2 H2 p2 (s1.trans s2))
    | false =>
      have p : GF B X b Γ1 φ := p
      exact iteF (p Hs1 σ H1 Q S1 fun ds Γ2 l vs Hs2 H2 p2 s2 => g ds Γ2 l vs Hs2 H2 p2 (s1.trans s2)))
/-- name = [..] that changes something, on one line -/
theorem set_lo {x : Str} {py : Pos} {elt t iter : Expr} {ifs : List Expr} {scope : Scope} {lpos : Pos} {i : Nat} (c : Bod X k) (nd : N.Nodup) (eN : X.N = N) {own : List (Str × Nat)} (hi : idxS X.N x = some i) (hx : X.env.scope.names.lookup x = some .local) (eo : ownS N scope = own) (ok : blkC N X.env.scope scope own = true)
    (hsw : swapsWith (.ListComp elt [⟨t, iter, ifs, 0⟩] scope lpos) (some (.Name x py)) pos.line X.env = pure true) (hs : ∀ x, foldedSetIterable iter X.env x = pure x)
    (h : GI B X t iter Γ fun n f keep Γ1 => ∃ I : Nat → List PyData → List Sl → Prop, I 0 [] (clr Γ1 (own.map (·.2))) ∧ (∀ i acc Γ, i ≤ n → I i acc Γ → keep Γ) ∧
      (∀ i acc Γ, i < n → I i acc Γ → ∀ B', Blk X scope fun Y => GC B' Y (own.map (·.2)) t (f i) (clr Γ (own.map (·.2))) fun Γ2 => Blk X scope fun Y => GP B' Y ifs Γ2 fun b Γ3 => if b = true then Blk X scope fun Y => GE B' Y elt Γ3 fun d Γ4 => acc.length < sizeLine ∧ I (i + 1) (acc ++ [d]) (clr Γ4 (own.map (·.2))) else I (i + 1) acc (clr Γ3 (own.map (·.2)))) ∧
      ∀ acc Γ, I n acc Γ → Nat.ble (i + 1) Γ.length = true ∧ ∀ a, Alone Γ a → E.nx (Γ.set i (.own a acc))) : G1 B X (.Assign [.Name x py] (.ListComp elt [⟨t, iter, ifs, 0⟩] scope lpos) pos) Γ E := fun D Hs σ H R S =>
  ps_of (ps_setLc (wi := tiW X t iter) (g := tgB X scope t) (tt := tpB X scope ifs) (te := teB X scope elt) c.calm (eN ▸ nd) (idxS_ok hi) hx hsw pi_W (blkOk_by (eN.symm ▸ ok)) (fun s0 H0 C cl fp => ⟨fun pins s _ _ _ u _ I r h => tgE (h s0 H0 C cl fp) pins s u I r⟩) (fun s0 H0 C cl fp => ⟨fun pins s _ _ _ I h => tpE (h s0 H0 C cl fp) pins s I⟩) (fun s0 H0 C cl fp => ⟨fun pins s _ _ _ I h => teE (h s0 H0 C cl fp) pins s I⟩) hs)
    (lc_t (φ := fun ds Γ1 => Nat.ble (i + 1) Γ1.length = true ∧ ∀ a, Alone Γ1 a → E.nx (Γ1.set i (.own a ds))) h S fun ds Γ1 a vs Hs1 H1 ⟨l, p⟩ s S1 f n al ha q => R.nx _ Hs1 _ H1 (p a al) s (S1.putL (Nat.le_of_ble_eq_true l) f n ha q al))
/-- a place of a list, told by a name, among several targets -/
theorem ggs_putn {i ij : Nat} {x j : Str} {p0 ps pj : Pos} {ad : Addr} {ds0 : List PyData} {d : PyData} {ts : List Expr} {ds : List PyData} {φ : List Sl → Prop} {n : Int} {m : Nat} (hN : idxS X.N x = some i) (hΓ : Γ[i]? = some (.own ad ds0)) (hv : Sees X.env.scope x = true)
    (hNj : idxS X.N j = some ij) (hΓj : Γ[ij]? = some (.d (.int n))) (hvj : Sees X.env.scope j = true) (hm : ixN ds0.length n = some m)
    (h : GGs B X ts ds (Γ.set i (.own ad (ds0.set m d))) φ)
    (hd : (x == ("__debug__" : Str)) = false) (hcd : (x == ("__classdict__" : Str)) = false) (hdj : (j == ("__debug__" : Str)) = false) (hcdj : (j == ("__classdict__" : Str)) = false)
    (ha : ∀ v, assign (.Subscript (.Name x p0) (.Name j pj) ps) X.env v = (do
      let ov ← holding [v] (eval (.Name x p0) X.env)
      let iv ← holding [v, ov] (eval (.Name j pj) X.env)
      standAt ps
      holding [v, ov, iv] (setItem ov iv v)
      release [v, ov, iv] []))
    (hs : (assignEach (.Subscript (.Name x p0) (.Name j pj) ps :: ts) X.env).map (·.2) = assign (.Subscript (.Name x p0) (.Name j pj) ps) X.env :: (assignEach ts X.env).map (·.2)) : GGs B X (.Subscript (.Name x p0) (.Name j pj) ps :: ts) (d :: ds) Γ φ :=
  ggs_put hN hΓ hv (fun ψ h => name_e hNj hΓj hvj h hdj hcdj) hm h hd hcd ha hs
end
/-! ### lists of numbers from 0 on -/
theorem ix_k {xs : List PyData} {i : Int} {k : PyData → Prop} (h0 : 0 ≤ i) (h1 : i < xs.length) (h : k (nth xs i.toNat)) : IxD (.list xs) (.int i) k := by
  have l : i.toNat < xs.length := by omega
  refine ⟨nth xs i.toNat, ?_, h⟩
  have e : xs[i.toNat]? = some (nth xs i.toNat) := by
    rw [List.getElem?_eq_getElem l]
    exact congrArg some (nth_at (List.getElem?_eq_getElem l)).symm
  unfold atD ixN
  rw [if_pos h0, if_pos h1]
  exact e
theorem ixN_k {n : Nat} {i : Int} (h0 : 0 ≤ i) (h1 : i < n) : ixN n i = some i.toNat := by
  unfold ixN
  rw [if_pos h0, if_pos h1]
structure Nats (m : Nat) (n : Int) (ds : List PyData) : Prop where
  len : ds.length = m
  nat : ∀ i, i < m → nth ds i = .int (asI (nth ds i)) ∧ 0 ≤ asI (nth ds i)
  sum : (ds.map asI).sum = n
theorem nth_set {ds : List PyData} {k i : Nat} {d : PyData} (h : k < ds.length) : nth (ds.set k d) i = if i = k then d else nth ds i := by
  show (ds.set k d).getD i .none = if i = k then d else ds.getD i .none
  rw [List.getD_eq_getElem?_getD, List.getD_eq_getElem?_getD, List.getElem?_set]
  by_cases e : k = i
  · subst e
    rw [if_pos rfl, if_pos rfl, if_pos h]
    rfl
  · rw [if_neg e, if_neg fun z => e z.symm]
theorem sum_set : ∀ {l : List Int} {k : Nat} {v : Int}, k < l.length → (l.set k v).sum = l.sum + (v - l.getD k 0)
  | x :: r, 0, v, _ => by
    show v + r.sum = x + r.sum + (v - x)
    omega
  | x :: r, k + 1, v, h => by
    have ih := sum_set (l := r) (k := k) (v := v) (by simpa using h)
    show x + (r.set k v).sum = x + r.sum + (v - r.getD k 0)
    omega
theorem Nats.put {m : Nat} {n : Int} {ds : List PyData} (N : Nats m n ds) {k : Nat} {v : Int} (hk : k < m) (hv : 0 ≤ v) : Nats m (n + (v - asI (nth ds k))) (ds.set k (.int v)) := by
  have hl : k < ds.length := by rw [N.len]; exact hk
  refine ⟨by rw [List.length_set]; exact N.len, fun i hi => ?_, ?_⟩
  · rw [nth_set hl]
    by_cases e : i = k
    · rw [if_pos e]
      exact ⟨rfl, hv⟩
    · rw [if_neg e]
      exact N.nat i hi
  · rw [List.map_set]
    rw [sum_set (by rw [List.length_map]; exact hl), N.sum]
    congr 2
    rw [List.getD_eq_getElem?_getD, List.getElem?_map]
    show (Option.map asI ds[k]?).getD 0 = asI (nth ds k)
    rw [List.getElem?_eq_getElem hl, nth_at (List.getElem?_eq_getElem hl)] <;> rfl
end Py
namespace Py
open PySem PySem.Spec PyProof.Rows L2 Tc Px
theorem Nats.snoc {m : Nat} {n v : Int} {ds : List PyData} (N : Nats m n ds) (hv : 0 ≤ v) : Nats (m + 1) (n + v) (ds ++ [.int v]) := by
  have at_ : ∀ i, i ≤ m → nth (ds ++ [PyData.int v]) i = if i = m then .int v else nth ds i := fun i hi => by
    show (ds ++ [PyData.int v]).getD i .none = if i = m then .int v else ds.getD i .none
    rw [List.getD_eq_getElem?_getD, List.getD_eq_getElem?_getD]
    by_cases e : i = m
    · subst e
      rw [if_pos rfl, ← N.len, List.getElem?_append_right (Nat.le_refl _), Nat.sub_self] <;> rfl
    · rw [if_neg e, List.getElem?_append_left (by rw [N.len]; omega)]
  refine ⟨by rw [List.length_append, N.len] <;> rfl, fun i hi => ?_, ?_⟩
  · rw [at_ i (by omega)]
    by_cases e : i = m
    · rw [if_pos e]
      exact ⟨rfl, hv⟩
    · rw [if_neg e]
      exact N.nat i (by omega)
  · rw [List.map_append, List.sum_append, N.sum]
    show n + (v + 0) = n + v
    omega
theorem nats6 {a b c d e f : Int} (h1 : 0 ≤ a) (h2 : 0 ≤ b) (h3 : 0 ≤ c) (h4 : 0 ≤ d) (h5 : 0 ≤ e) (h6 : 0 ≤ f) : Nats 6 (a + (b + (c + (d + (e + (f + 0)))))) [.int a, .int b, .int c, .int d, .int e, .int f] := ⟨rfl, fun i hi => by
  match i, hi with
  | 0, _ => exact ⟨rfl, h1⟩
  | 1, _ => exact ⟨rfl, h2⟩
  | 2, _ => exact ⟨rfl, h3⟩
  | 3, _ => exact ⟨rfl, h4⟩
  | 4, _ => exact ⟨rfl, h5⟩
  | 5, _ => exact ⟨rfl, h6⟩, rfl⟩
end Py
/-! A dict that is written and read at once; the lists' comparisons. -/
namespace Py
open PySem PySem.Spec PyProof.Rows L2 Tc Px
section
variable {B : Bas} {X : Cx} {Γ : List Sl} {pos dp : Pos} {k : Nat}
theorem val3 {z1 z2 z3 : Str} {u1 u2 u3 : V} (h12 : z1 ≠ z2) (h13 : z1 ≠ z3) (h23 : z2 ≠ z3) :
    valV (mergeK [] [((Sum.inr z1 : Sum Int Str), u1), ((Sum.inr z2 : Sum Int Str), u2), ((Sum.inr z3 : Sum Int Str), u3)]) (Sum.inr z1 : Sum Int Str) = some u1 ∧ valV (mergeK [] [((Sum.inr z1 : Sum Int Str), u1), ((Sum.inr z2 : Sum Int Str), u2), ((Sum.inr z3 : Sum Int Str), u3)]) (Sum.inr z2 : Sum Int Str) = some u2 ∧ valV (mergeK [] [((Sum.inr z1 : Sum Int Str), u1), ((Sum.inr z2 : Sum Int Str), u2), ((Sum.inr z3 : Sum Int Str), u3)]) (Sum.inr z3 : Sum Int Str) = some u3 := by
  have e : mergeK [] [((Sum.inr z1 : Sum Int Str), u1), ((Sum.inr z2 : Sum Int Str), u2), ((Sum.inr z3 : Sum Int Str), u3)] = [((Sum.inr z1 : Sum Int Str), u1), ((Sum.inr z2 : Sum Int Str), u2), ((Sum.inr z3 : Sum Int Str), u3)] := by
    show putK (putK (putK [] (Sum.inr z1 : Sum Int Str) u1) (Sum.inr z2) u2) (Sum.inr z3) u3 = _
    simp [putK, h12, h13, h23]
  rw [e]
  refine ⟨?_, ?_, ?_⟩
  · simp [valV]
  · simp [valV, List.find?_cons, h12]
  · simp [valV, List.find?_cons, h13, h23]
/-- {"..": a, "..": b, "..": c}[key] -/
theorem ge_dsub {z1 z2 z3 : Str} {n1 n2 n3 : Nat} {c1 c2 c3 : Pos} {a b c e : Expr} {φ : PyData → List Sl → Prop} {χ : PyData → PyData → PyData → List Sl → Prop} (cx : Cxt X k) (ns : NoSl e) (h12 : z1 ≠ z2) (h13 : z1 ≠ z3) (h23 : z2 ≠ z3)
    (h : ∀ B', GE B' X a Γ fun d1 Γ1 => GE B' X b Γ1 fun d2 Γ2 => GE B' X c Γ2 fun d3 Γ3 => χ d1 d2 d3 Γ3)
    (he : ∀ d1 d2 d3 Γ3, χ d1 d2 d3 Γ3 → ∀ B', GE B' X e Γ3 fun d Γ4 => (d = .str z1 ∧ φ d1 Γ4) ∨ (d = .str z2 ∧ φ d2 Γ4) ∨ (d = .str z3 ∧ φ d3 Γ4)) :
    GE B X (.Subscript (.Dict [some (.Constant (.str z1) n1 c1), some (.Constant (.str z2) n2 c2), some (.Constant (.str z3) n3 c3)] [a, b, c] dp) e pos) Γ φ := fun Hs σ H Q S g => by
  refine pe_of (pe_dget (by have := cx.room.units; omega) (pe_disp (pps_cons pe_str pe_W (pps_cons pe_str pe_W (pps_cons pe_str pe_W pps_nil))) rfl rfl (List.cons_ne_nil _ _) (show 3 ≤ 15 by decide)) pe_W ns) ?_
  intro p hp
  obtain ⟨f, n, al⟩ := alone_new S hp
  have S0 := (S.aside (o := .dK []) hp).hold upd_same n f al
  have g0 : Grow B.fr B.hs Hs := S.gr
  refine show teW X a σ _ _ from h ⟨upd B.fr p (.dK []), Hs, B.T⟩ Hs σ _ _ S0 fun d1 Γ1 v1 Hs1 H1 p1 s1 S1 q1 => show teW X b σ H1 _ from p1 Hs1 σ H1 _ S1 fun d2 Γ2 v2 Hs2 H2 p2 s2 S2 q2 => show teW X c σ H2 _ from p2 Hs2 σ H2 _ S2 fun d3 Γ3 v3 Hs3 H3 p3 s3 S3 q3 => ?_
  obtain ⟨S4, hb, nb, ab⟩ := S3.loose g0 f n
  refine ⟨hb, [((Sum.inr z1 : Sum Int Str), v1), ((Sum.inr z2 : Sum Int Str), v2), ((Sum.inr z3 : Sum Int Str), v3)], rfl, by show 3 ≤ 15; decide, ?_⟩
  have S5 := S4.beside (o := .dK (mergeK [] [((Sum.inr z1 : Sum Int Str), v1), ((Sum.inr z2 : Sum Int Str), v2), ((Sum.inr z3 : Sum Int Str), v3)])) hb rfl nb f ab
  have S6 := S5.hold upd_same nb f ab
  refine show teW X e σ _ _ from he d1 d2 d3 Γ3 p3 ⟨_, Hs3, B.T⟩ Hs3 σ _ _ S6 fun d Γ4 v Hs4 H4 p4 s4 T4 q4 => ?_
  obtain ⟨T, hD, _, _⟩ := T4.loose (S4.gr) f nb
  obtain ⟨w1, w2, w3⟩ := val3 (u1 := v1) (u2 := v2) (u3 := v3) h12 h13 h23
  have sA : Same Hs Hs4 := s1.trans (s2.trans (s3.trans s4))
  rcases p4 with ⟨rfl, p4⟩ | ⟨rfl, p4⟩ | ⟨rfl, p4⟩
  · cases q4
    exact ⟨p, v1, rfl, .inl ⟨_, .inr z1, .inl hD, rfl, w1.symm⟩, g d1 Γ4 v1 Hs4 H4 p4 sA T (q1.mono (s2.trans (s3.trans s4)))⟩
  · cases q4
    exact ⟨p, v2, rfl, .inl ⟨_, .inr z2, .inl hD, rfl, w2.symm⟩, g d2 Γ4 v2 Hs4 H4 p4 sA T (q2.mono (s3.trans s4))⟩
  · cases q4
    exact ⟨p, v3, rfl, .inl ⟨_, .inr z3, .inl hD, rfl, w3.symm⟩, g d3 Γ4 v3 Hs4 H4 p4 sA T (q3.mono s4)⟩
/-- what stands at a key of three -/
def Sel3 (z1 z2 z3 : Str) (D1 D2 D3 d : PyData) (k : PyData → Prop) : Prop := (d = .str z1 ∧ k D1) ∨ (d = .str z2 ∧ k D2) ∨ (d = .str z3 ∧ k D3)
theorem ge_dsub0 {z1 z2 z3 : Str} {n1 n2 n3 : Nat} {c1 c2 c3 : Pos} {a b c e : Expr} {φ : PyData → List Sl → Prop} {D1 D2 D3 : PyData} (cx : Cxt X k) (ns : NoSl e) (h12 : z1 ≠ z2) (h13 : z1 ≠ z3) (h23 : z2 ≠ z3)
    (h : ∀ B', GE B' X a Γ fun d1 Γ1 => GE B' X b Γ1 fun d2 Γ2 => GE B' X c Γ2 fun d3 Γ3 => d1 = D1 ∧ d2 = D2 ∧ d3 = D3 ∧ Γ3 = Γ)
    (he : ∀ B', GE B' X e Γ fun d Γ4 => Sel3 z1 z2 z3 D1 D2 D3 d fun D => φ D Γ4) :
    GE B X (.Subscript (.Dict [some (.Constant (.str z1) n1 c1), some (.Constant (.str z2) n2 c2), some (.Constant (.str z3) n3 c3)] [a, b, c] dp) e pos) Γ φ :=
  ge_dsub (χ := fun d1 d2 d3 Γ3 => d1 = D1 ∧ d2 = D2 ∧ d3 = D3 ∧ Γ3 = Γ) cx ns h12 h13 h23 h (fun _ _ _ _ h => by obtain ⟨rfl, rfl, rfl, rfl⟩ := h; exact he)
end
theorem eqv_bl2 (a b : Bool) : PyData.eqv (.list [.bool a, .bool b]) (.list [.bool true, .bool true]) = (a && b) := by cases a <;> cases b <;> rfl
end Py
/-! A text walked sign by sign; places of a text. -/
namespace Py
open PySem PySem.Spec PyProof.Rows L2 Tc Px
def sgn (z : Str) (i : Nat) : Str := ⟨#[z.cps[i]?.getD 0]⟩
theorem its_str {z : Str} {Hs : Hp} : Px.Its (fun _ => True) Hs (L2.Its z) z.cps.size (fun i => .str (sgn z i)) := ⟨_, _, walk_str, fun _ _ _ _ _ _ _ _ => trivial, by
  rintro B i Hs2 σ H Γ x _ _ _ s2 S ⟨rfl, c, hc, rfl⟩
  refine ⟨Hs2, Same.refl _, S, ?_⟩
  have e : sgn z i = ⟨#[c]⟩ := by
    unfold sgn
    rw [hc] <;> rfl
  show Dv Hs2 _ (.str (sgn z i))
  rw [e]
  exact .str _⟩
section
variable {B : Bas} {X : Cx} {Γ : List Sl} {pos : Pos} {tg e : Expr} {k : PyData → Prop}
theorem gi_str {φ : Nat → (Nat → PyData) → (List Sl → Prop) → List Sl → Prop} (h : GE B X e Γ fun d Γ1 => ∃ z : Str, d = .str z ∧ φ z.cps.size (fun i => .str (sgn z i)) (fun _ => True) Γ1) : GI B X tg e Γ φ := fun Hs σ H R S g =>
  pi_of (pi_str pe_W) (show teW X e σ H _ from h Hs σ H _ S fun d Γ1 v Hs1 H1 ⟨z, ez, p⟩ s S1 q => by
    subst ez
    cases q
    exact ⟨z, rfl, g _ _ _ Γ1 _ Hs1 H1 p s S1 its_str⟩)
/-- the n-th sign of a text -/
theorem ix_s {z : Str} {n : Nat} (hz : z.length ≤ sizeLine) (hn : n < z.cps.size) (h : k (.str (sgn z n))) : IxD (.str z) (.int (n : Int)) k := by
  have e : z.cps[n]? = some z.cps[n] := Array.getElem?_eq_getElem hn
  refine ⟨hz, z.cps[n], ?_, ?_⟩
  · have : z.cps.toList[n]? = some z.cps[n] := by rw [Array.getElem?_toList]; exact e
    show atI z.cps.toList (n : Int) = _
    unfold atI
    rw [show ixN z.cps.toList.length (n : Int) = some n by rw [ixN_k (by omega) (by simpa using hn)] <;> rfl]
    exact this
  · have : sgn z n = ⟨#[z.cps[n]]⟩ := by
      unfold sgn
      rw [e] <;> rfl
    rw [← this]
    exact h
end
end Py
/-! A def called by its names, the last one first. -/
namespace Py
open PySem PySem.Spec PyProof.Rows L2 Tc Px
structure CallR (P : Program) (w : World) (K : PySem.W.Frag) (mg : Str → Option Value) (base : Heap) (CX : CXT)
    (k : Nat) (x : Str) (ps : List Str) (sp : Sp) (ns : List Str) : Prop where
  ex : ∃ f fd, FnG P w K mg base CX k f fd ps sp ∧ mg x = some (.ref f) ∧ PySem.W.keepIn K (.ref f) = true ∧
    ∀ (s : Shared) (us : List Value), us.length = ns.length → BindsTo s fd ⟨[], ns.zip us⟩ (ps.zip us.reverse)
theorem vals_rev : ∀ {vs : List V} {us : List Value}, Vals vs us → Vals vs.reverse us.reverse
  | _, _, .nil => .nil
  | _, _, .cons (a := a) (b := b) r h => by
    rw [List.reverse_cons, List.reverse_cons]
    exact Vals.append (vals_rev h) (.cons r .nil)
section
variable {B : Bas} {X : Cx} {Γ : List Sl} {pos : Pos} {k j n : Nat} {P : Program} {w : World} {K : PySem.W.Frag} {mg : Str → Option Value} {base : Heap}
theorem call_R {x : Str} {p : Pos} {ks : List Keyword} {a b : Expr} {n1 n2 : Option Str} {p1 p2 : Pos} {ps ns : List Str} {sp : Sp} {W : WX} (F : CallR X.prog X.w X.K X.mg X.base (L2.CX X.prog X.w) j x ps sp ns) (c : Cxt X k) (hj : j ≤ k) (hg : Gl X x) (tk : Takes X W)
    (hk : ks = [⟨n1, a, p1⟩, ⟨n2, b, p2⟩])
    (hall : (backToKw pos (keywordEach ks X.env)).all (·.1.isSome) = true)
    (hks : (backToKw pos (keywordEach ks X.env)).filterMap (·.1) = ns)
    (hpl : ((backTo pos (starEach [] X.env)).any (·.1) || (backToKw pos (keywordEach ks X.env)).any (·.1.isNone)) = false)
    (hl : ns.length = ps.length) (hdb : (x == ("__debug__" : Str)) = false)
    {σ : L2.St} {H : Hp} {Q : VK} (h : teW X a σ H fun va H1 => teW X b σ H1 fun vb H2 => sp [vb, va] H2 Q fun cl d H' => W cl d σ H') : teW X (.Call (.Name x p) [] ks pos) σ H Q := teI fun pins s I => by
  subst hk
  obtain ⟨f, fd, G, hm, kp, hb⟩ := F.ex
  have PKs : PK X [⟨n1, a, p1⟩, ⟨n2, b, p2⟩] (tCons (teW X a) (tCons (teW X b) tNil)) := pk_cons pe_W (pk_cons pe_W pk_nil)
  refine wpAny_Call_Name_kw (ld_glob I hg hm ?_ hdb)
  refine PySem.W.callWith_KW0 (h₀ := X.base) I.ok.mod.kin kp hall (thn (PKs.run pos pins s σ H (fun vs H2 => sp vs.reverse H2 Q fun cl d H' => W cl d σ H') I h) ?_) hpl
  rintro us s1 ⟨vs, H1, I1, r, q⟩
  refine ⟨I1.kIn, ?_⟩
  rw [hks]
  have l1 := G.len _ _ _ _ q
  rw [List.length_reverse] at l1
  have main := G.run X.A X.stack s1 H1 ⟨[], ns.zip us⟩ us.reverse vs.reverse Q _ (c.room.mono hj) c.gd I1.env0 (hb s1 us (by rw [← r.length, l1, hl])) (vals_rev r) q
  refine wpAny_call (codeAny_mono main ?_)
  intro res s' hq
  cases res with
  | error er => exact tk er s' (XE.of_call I1 (fun _ _ _ h => h) hq)
  | ok fl =>
    cases fl with
    | ret u => exact I1.after hq
    | next | brk | cont => exact False.elim hq
/-- a def of data, called by its names -/
theorem ge_callR {x : Str} {p : Pos} {a b : Expr} {n1 n2 : Option Str} {p1 p2 : Pos} {ps ns : List Str} {pre : List PyData → Prop} {f : List PyData → Out} {ψ : Addr → PyData → List Sl → Prop} {φ : PyData → List Sl → Prop} (hX : SameX X P w K mg base) (F : CallR P w K mg base (L2.CX P w) j x ps (spF 2 pre f) ns) (c : Cxt X k) (hj : Nat.ble j k = true) (hg : Gl X x) (ex : Exc B X ψ)
    (h : GE B X a Γ fun d1 Γ1 => GE B X b Γ1 fun d2 Γ2 => pre [d2, d1] ∧ (f [d2, d1]).to (fun d => φ d Γ2) (fun C d => ψ C d Γ2)) (hdb : (x == ("__debug__" : Str)) = false)
    (hall : (backToKw pos (keywordEach [⟨n1, a, p1⟩, ⟨n2, b, p2⟩] X.env)).all (·.1.isSome) = true)
    (hks : (backToKw pos (keywordEach [⟨n1, a, p1⟩, ⟨n2, b, p2⟩] X.env)).filterMap (·.1) = ns)
    (hpl : ((backTo pos (starEach [] X.env)).any (·.1) || (backToKw pos (keywordEach [⟨n1, a, p1⟩, ⟨n2, b, p2⟩] X.env)).any (·.1.isNone)) = false)
    (hl : ns.length = ps.length) : GE B X (.Call (.Name x p) [] [⟨n1, a, p1⟩, ⟨n2, b, p2⟩] pos) Γ φ := fun Hs σ H Q S g => by
  obtain ⟨rfl, rfl, rfl, rfl, rfl⟩ := hX
  obtain ⟨W, tk, hW⟩ := ex
  refine call_R F c (Nat.le_of_ble_eq_true hj) hg tk rfl hall hks hpl hl hdb (show teW X a σ H _ from h Hs σ H _ S fun d1 Γ1 v1 Hs1 H1 p1 s1 S1 q1 => show teW X b σ H1 _ from p1 Hs1 σ H1 _ S1 fun d2 Γ2 v2 Hs2 H2 ⟨hp, q⟩ s2 S2 q2 => ⟨Hs2, [d2, d1], S2.sub, .cons q2 (.cons (q1.mono s2) .nil), rfl, hp, fun v Hs3 H3 k1 k2 k3 => ?_⟩)
  obtain ⟨s3, S3⟩ := S2.step k3 k1 k2
  cases e : f [d2, d1] with
  | ok d =>
    rw [e] at q
    exact fun dd => g d Γ2 v Hs3 H3 q (s1.trans (s2.trans s3)) S3 dd
  | up C d =>
    rw [e] at q
    exact fun dvv dd hdd => hW C d Γ2 v Hs3 σ H3 q S3 dvv dd hdd
end
end Py
/-! The cells of a def's names, tracked for a while. -/
namespace Py
open PySem PySem.Spec PyProof.Rows L2 Tc Px
structure CellAt (X : Cx) (H : Hp) (s : Shared) (x : Str) (v : V) (c : Addr) (o : Obj) (u : Value) : Prop where
  lk : X.env.cells.lookup x = some c
  at_ : s.heap.get? c = some o
  dat : o.data = .cell (some u)
  rel : RelV v u
  no : H c = none
  nb : X.base.get? c = none
  nf : c ∉ frs X.stack
theorem cell_at {X : Cx} {pins : Pins} {σ : L2.St} {H : Hp} {s : Shared} (I : Inv X pins σ H s) {x : Str} {i : Nat} {v : V} (fn : X.fn x = true) (kd : X.env.kindOf x = some .cell) (vs : Vis X.env.scope x) (hN : X.N[i]? = some x) (hσ : σ[i]? = some (some v)) :
    ∃ c o u, CellAt X H s x v c o u := by
  obtain ⟨m, hm, hl⟩ := I.loc
  obtain ⟨u, r, hk⟩ := hl i x v hN hσ vs
  rcases hk with ⟨h1, _⟩ | ⟨_, c, hc, o, ho, hd⟩
  · rw [kd] at h1
    cases h1
  have ge := I.ok.cab x c fn hc
  have out : c ∉ X.fs := fun hb => by
    obtain ⟨_, o2, h2, _⟩ := I.ok.funs.mem hb
    exact absurd (Heap.lt_size h2) (Nat.not_lt_of_le ge)
  refine ⟨c, o, u, hc, ho, hd, r, I.freeC x c hc, ?_, ?_⟩
  · cases q : X.base.get? c with
    | none => rfl
    | some o2 => exact absurd (Heap.lt_size q) (Nat.not_lt_of_le (Nat.le_trans I.ok.bsz ge))
  · rcases I.ok.stk with e | ⟨e, ef⟩
    · rw [e]
      exact out
    · rw [e]
      intro hb
      have hb : c ∈ (X.env :: X.outer).filterMap (·.frame) := hb
      rw [List.filterMap_cons, ef] at hb
      rcases List.mem_cons.mp hb with z | z
      · obtain ⟨o2, es, ep, h2, d2, _⟩ := hm
        rw [← z, ho] at h2
        cases h2
        rw [hd] at d2
        cases d2
      · exact out z
theorem lookup2 {c1 c2 b : Addr} {o1 o2 o : Obj} (h : List.lookup b [(c1, o1), (c2, o2)] = some o) : (b = c1 ∧ o = o1) ∨ (b = c2 ∧ o = o2) := by
  by_cases e1 : b = c1
  · subst e1
    rw [List.lookup_cons_self] at h
    cases h
    exact .inl ⟨rfl, rfl⟩
  · rw [List.lookup_cons, beq_eq_false_iff_ne.mpr e1] at h
    by_cases e2 : b = c2
    · subst e2
      rw [List.lookup_cons_self] at h
      cases h
      exact .inr ⟨rfl, rfl⟩
    · rw [List.lookup_cons, beq_eq_false_iff_ne.mpr e2] at h
      cases h
/-- the cells of two names -/
theorem cells2 {X : Cx} {pins : Pins} {σ : L2.St} {H : Hp} {s : Shared} (I : Inv X pins σ H s) {x y : Str} {i j : Nat} {v w : V} (fx : X.fn x = true) (kx : X.env.kindOf x = some .cell) (vx : Vis X.env.scope x) (hx : X.N[i]? = some x) (sx : σ[i]? = some (some v))
    (fy : X.fn y = true) (ky : X.env.kindOf y = some .cell) (vy : Vis X.env.scope y) (hy : X.N[j]? = some y) (sy : σ[j]? = some (some w)) (ne : x ≠ y) :
    ∃ L : Pins, Free L H s.heap (frs X.stack) ∧ (∀ b o, L.lookup b = some o → X.base.get? b = none) ∧ (∃ c o u, X.env.cells.lookup x = some c ∧ L.lookup c = some o ∧ o.data = .cell (some u) ∧ RelV v u) ∧ (∃ c o u, X.env.cells.lookup y = some c ∧ L.lookup c = some o ∧ o.data = .cell (some u) ∧ RelV w u) := by
  obtain ⟨c1, o1, u1, C1⟩ := cell_at I fx kx vx hx sx
  obtain ⟨c2, o2, u2, C2⟩ := cell_at I fy ky vy hy sy
  have n12 : c2 ≠ c1 := fun e => ne (I.ok.inj x y c1 C1.lk (e ▸ C2.lk))
  refine ⟨[(c1, o1), (c2, o2)], ⟨fun b o h => ?_, fun b o h => ?_, fun b o h => ?_⟩, fun b o h => ?_, ⟨c1, o1, u1, C1.lk, List.lookup_cons_self, C1.dat, C1.rel⟩, ⟨c2, o2, u2, C2.lk, ?_, C2.dat, C2.rel⟩⟩
  · rcases lookup2 h with ⟨rfl, rfl⟩ | ⟨rfl, rfl⟩
    · exact C1.at_
    · exact C2.at_
  · rcases lookup2 h with ⟨rfl, rfl⟩ | ⟨rfl, rfl⟩
    · exact C1.no
    · exact C2.no
  · rcases lookup2 h with ⟨rfl, rfl⟩ | ⟨rfl, rfl⟩
    · exact C1.nf
    · exact C2.nf
  · rcases lookup2 h with ⟨rfl, rfl⟩ | ⟨rfl, rfl⟩
    · exact C1.nb
    · exact C2.nb
  · rw [List.lookup_cons, beq_eq_false_iff_ne.mpr n12]
    exact List.lookup_cons_self
end Py
/-! A def is called with a list of function values while the cells that they read are tracked. -/
namespace Py
open PySem PySem.Spec PyProof.Rows L2 Tc Px
structure CellsOk (X : Cx) (L : Pins) (H : Hp) (x y : Str) (v w : V) : Prop where
  ok : X.Ok
  no : ∀ b o, L.lookup b = some o → H b = none
  cx : ∃ c o u, X.env.cells.lookup x = some c ∧ L.lookup c = some o ∧ o.data = .cell (some u) ∧ RelV v u
  cy : ∃ c o u, X.env.cells.lookup y = some c ∧ L.lookup c = some o ∧ o.data = .cell (some u) ∧ RelV w u
theorem end_call {B : Bas} {X : Cx} {Γ : List Sl} {pos p py : Pos} {k j ix i1 i2 : Nat} {x y n1 n2 : Str} {b : Expr} {ps : List Str} {La : Addr} {out : PyData} {pre : Hp → Hp → List V → Out → Prop} {φ : PyData → List Sl → Prop}
    (F : Call X.prog X.w X.K X.mg X.base (L2.CX X.prog X.w) j x ps (spS 2 pre)) (c : Cxt X k) (hj : j ≤ k) (hg : Gl X x) (hdb : (x == ("__debug__" : Str)) = false)
    (he : starEach [.Name y py, b] X.env = (false, eval (.Name y py) X.env) :: starEach [b] X.env) (he2 : starEach [b] X.env = (false, eval b X.env) :: starEach [] X.env) (hpl : (backTo pos (starEach [b] X.env)).any (·.1) = false)
    (f1 : X.fn n1 = true) (k1 : X.env.kindOf n1 = some .cell) (v1 : Vis X.env.scope n1) (x1 : X.N[i1]? = some n1) (f2 : X.fn n2 = true) (k2 : X.env.kindOf n2 = some .cell) (v2 : Vis X.env.scope n2) (x2 : X.N[i2]? = some n2) (ne : n1 ≠ n2)
    (hN : X.N[ix]? = some y) (hv : Vis X.env.scope y) (hd : (y == ("__debug__" : Str)) = false) (hcd : (y == ("__classdict__" : Str)) = false) (hΓ : Γ[ix]? = some (.v (.ref La)))
    (h : GE B X b Γ fun e Γ1 => φ out Γ1 ∧ ∃ d r, Γ1[i1]? = some (.d d) ∧ Γ1[i2]? = some (.d r) ∧
      ∀ (L : Pins) (H1 Hs1 : Hp) (σ : L2.St) (v w1 w2 : V), Sx B Hs1 σ H1 Γ1 → Dv Hs1 v e → σ[i1]? = some (some w1) → σ[i2]? = some (some w2) → CellsOk X L H1 n1 n2 w1 w2 → pre (plus H1 L) Hs1 [.ref La, v] (.ok out)) :
    GE B X (.Call (.Name x p) [.Name y py, b] [] pos) Γ φ := fun Hs σ H Q S g => by
  refine call_plus F c.room c.gd hj hg hdb he hpl (E := fun _ _ _ => False) pass_never ?_
  refine pa_of (pa_cons (pe_var hN hv hd hcd) (pa_cons pe_W pa_nil he2) he) ⟨.ref La, S.val hΓ, ?_⟩
  refine show teW X b σ H _ from h Hs σ H _ S fun e Γ1 v Hs1 H1 ⟨p1, d, r, g1, g2, q⟩ s1 S1 q1 => fun pins s I => ?_
  obtain ⟨w1, z1, _⟩ := S1.dat g1
  obtain ⟨w2, z2, _⟩ := S1.dat g2
  obtain ⟨L, Fr, nb, cx, cy⟩ := cells2 I f1 k1 v1 x1 z1 f2 k2 v2 x2 z2 ne
  refine ⟨L, Fr, nb, Hs1, .ok out, fun b u e => ?_, rfl, q L H1 Hs1 σ v w1 w2 S1 q1 z1 z2 ⟨I.ok, Fr.no, cx, cy⟩, fun v2 Hs2 H2 m1 m2 m3 => ?_⟩
  · have := S1.sub b u e
    rw [plus_out (Fr.out this)]
    exact this
  have up : ∀ b, H1 b ≠ none → plus H1 L b ≠ none := fun b n => by
    cases z : L.lookup b with
    | some o => rw [plus_in z]; exact fun y => nomatch y
    | none => rw [plus_out z]; exact n
  obtain ⟨s2, S2⟩ := S1.step (m3.mono up) (H' := less H2 L) (fun b u e => by
    have o := Fr.out e
    rw [less_out o]
    exact m1 b u (by rw [plus_out o]; exact e)) (fun b u e => by
    cases z : L.lookup b with
    | some o =>
      have n1 : Hs1 b = none := S1.sub.free (Fr.no b o z)
      have := m3.off b n1 (by rw [plus_in z]; exact fun y => nomatch y)
      rw [this] at e
      cases e
    | none =>
      rw [less_out z]
      exact m2 b u e)
  exact fun dv2 => ⟨fun b o z => m1 _ _ (plus_in z), g out Γ1 v2 Hs2 (less H2 L) p1 (s1.trans s2) S2 dv2⟩
end Py
/-! A def of a list that it changes, and that makes lambdas: the tables of lambdas beside. -/
namespace Py
open PySem PySem.Spec PyProof.Rows L2 Tc Px
def spT (n : Nat) (pre : List PyData → List PyData → Prop) (R : List PyData → List PyData → Out → List PyData → Prop) (T : List (Addr × Str)) : Sp := fun vs H Q E => ∃ Hs a pv ws ps ds, vs = .ref a :: ws ∧ Same Hs H ∧ Hs a = none ∧ H a = some (.lst pv) ∧ DvAll Hs pv ps ∧ DvAll Hs ws ds ∧ ds.length = n ∧ pre ps ds ∧ TbN T Hs H ∧
  ∀ o ps', R ps ds o ps' → ∀ v Hs' H' pv', (∀ b u, H b = some u → b ≠ a → (∀ p ∈ T, b ≠ p.1) → H' b = some u) → Same Hs' H' → Grow H Hs Hs' → TbN T Hs' H' → H' a = some (.lst pv') → DvAll Hs' pv' ps' → o.to (fun d => Dv Hs' v d → Q v H') (fun C d => Dv Hs' v d → upE C v H' E)
section
variable {P : Program} {w : World} {K : PySem.W.Frag} {mg : Str → Option Value} {base : Heap}
theorem fn_pailT {x qual : Str} {st : Stmt} {f : Addr} {fd : FuncData} {N ps : List Str} {k n : Nat} (T : List (Addr × Str)) (F : Fun K x qual st f fd) (S : FnScope N ps (defScope st)) (sm : ∃ o, K.lookup sysModules = some o) (hn : ps.length = n + 1) (pre : List PyData → List PyData → Prop) (R : List PyData → List PyData → Out → List PyData → Prop)
    (body : ∀ (cdv : Value) (A : Around) (outer : List Env) (s : Shared) (H : Hp) (E : XK) (B : Bas) (a : Addr) (ms ds : List PyData), ds.length = n → pre ms ds → B.T = T → (∀ p ∈ T, B.fr p.1 = none) →
      Bod (cxOf (L2.CX P w) P w K mg base N qual (defScope st) f cdv A outer s H E) k → Exc B (cxOf (L2.CX P w) P w K mg base N qual (defScope st) f cdv A outer s H E) (fun C d Γ => ∃ ms', Γ[0]? = some (.own a ms') ∧ R ms ds (.up C d) ms') →
      Gs B (cxOf (L2.CX P w) P w K mg base N qual (defScope st) f cdv A outer s H E) (defBody st) (slots0 N (.own a ms :: ds.map .d)) { nx := fun Γ => ∃ ms', Γ[0]? = some (.own a ms') ∧ R ms ds (.ok .none) ms', rt := fun d Γ => ∃ ms', Γ[0]? = some (.own a ms') ∧ R ms ds (.ok d) ms' }) :
    FnG P w K mg base (L2.CX P w) (k + 1) f fd ps (spT n pre R T) := by
  refine Fun.okG F S (fun vs H Q E h => ?_) (fun cdv A outer s H vs Q E hr hgd h => ?_)
  · obtain ⟨Hs, a, pv, ws, ms, ds, rfl, _, _, _, _, d, l, _⟩ := h
    rw [List.length_cons, d.len, l, hn]
  · obtain ⟨Hs, a, pv, ws, ms, ds, rfl, sub, na, ha, dp, dv, l, hp, tb, q⟩ := h
    have tk := takes_of (X := cxOf (L2.CX P w) P w K mg base N qual (defScope st) f cdv A outer s H E) (E := E) rfl rfl rfl rfl
    -- all but the list and the tables
    generalize hG : (fun b => if b = a ∨ b ∈ T.map Prod.fst then none else H b : Hp) = G
    have Ga : G a = none := by rw [← hG]; exact if_pos (.inl rfl)
    have GT : ∀ p ∈ T, G p.1 = none := fun p hp => by rw [← hG]; exact if_pos (.inr (List.mem_map_of_mem hp))
    have Gb : ∀ b, b ≠ a → b ∉ T.map Prod.fst → G b = H b := fun b hb hc => by rw [← hG]; exact if_neg (fun z => z.elim hb hc)
    have GH : Same G H := fun b o e => by
      by_cases z : b = a ∨ b ∈ T.map Prod.fst
      · have e2 : G b = none := by rw [← hG]; exact if_pos z
        rw [e2] at e
        cases e
      · rw [← Gb b (fun y => z (.inl y)) (fun y => z (.inr y))]; exact e
    have S0 : Sx ⟨G, Hs, T⟩ Hs (L2.start N (.ref a :: ws)) H (slots0 N (.own a ms :: ds.map .d)) := by
      refine ⟨GH, Grow.refl _ _, sub, ?_, fun i t h => ?_, fun i j b es c fs h1 h2 n => ?_, tb⟩
      · show ((V.ref a :: ws).map some ++ List.replicate _ none).length = ((Sl.own a ms :: ds.map Sl.d) ++ _).length
        simp only [List.length_append, List.length_map, List.length_replicate, List.length_cons, dv.len]
      · rcases slots_get h with rfl | h
        · exact trivial
        · cases i with
          | zero =>
            have e : t = .own a ms := (Option.some.inj h).symm
            subst e
            exact ⟨start_get rfl, Ga, na, pv, ha, dp⟩
          | succ i =>
            obtain ⟨d, e, rfl⟩ := map_get (show (ds.map Sl.d)[i]? = some t from h)
            obtain ⟨v, ev, q⟩ := dvs_get dv e
            exact ⟨v, start_get (show (V.ref a :: ws)[i + 1]? = some v from ev), q⟩
      · rcases slots_get h1 with z | z
        · cases z
        · cases i with
          | succ i =>
            obtain ⟨d, _, z⟩ := map_get (show (ds.map Sl.d)[i]? = _ from z)
            cases z
          | zero =>
            rcases slots_get h2 with z2 | z2
            · cases z2
            · cases j with
              | zero => exact absurd rfl n
              | succ j =>
                obtain ⟨d, _, z⟩ := map_get (show (ds.map Sl.d)[j]? = _ from z2)
                cases z
    have fin : ∀ {Γ : List Sl} {Hs' : Hp} {σ' : L2.St} {H' : Hp} {ms' : List PyData}, Sx ⟨G, Hs, T⟩ Hs' σ' H' Γ → Γ[0]? = some (.own a ms') → (∀ b u, H b = some u → b ≠ a → (∀ p ∈ T, b ≠ p.1) → H' b = some u) ∧ Grow H Hs Hs' ∧ TbN T Hs' H' ∧ ∃ pv', H' a = some (.lst pv') ∧ DvAll Hs' pv' ms' := fun {Γ Hs' σ' H' ms'} Z e => by
      obtain ⟨_, _, n', pv', h', d'⟩ := Z.lst e
      have tb' : TbN T Hs' H' := Z.tb
      refine ⟨fun b u eb nb nt => Z.fr b u ((Gb b nb fun y => ?_).trans eb), ⟨Z.gr.same, fun b nb fb => ?_⟩, tb', pv', h', d'⟩
      · obtain ⟨p, hp, ep⟩ := List.mem_map.mp y
        exact nt p hp ep.symm
      · by_cases z : b = a
        · rw [z]
          exact n'
        · by_cases y : b ∈ T.map Prod.fst
          · obtain ⟨p, hp, ep⟩ := List.mem_map.mp y
            rw [← ep]
            exact tb'.2 p hp
          · exact Z.gr.off b nb (by show G b ≠ none; rw [Gb b z y]; exact fb)
    refine ⟨_, pss_W, body cdv A outer s H E ⟨G, Hs, T⟩ a ms ds l hp rfl GT ⟨⟨hr, hgd, sm⟩, S.nd, rfl, PassesOwn.leaving⟩ ⟨_, tk, fun C d Γ v Hs' σ' H' e T dvv dd hdd => ?_⟩ _ Hs _ H ⟨fun Γ Hs' σ' H' e _ T => ?_, fun d Γ v Hs' σ' H' e _ T dvv => ?_, fun _ _ _ _ z => z.elim, fun _ _ _ _ z => z.elim⟩ S0⟩
    · obtain ⟨ms', e0, r⟩ := e
      obtain ⟨k1, k2, k3, pv', h', d'⟩ := fin T e0
      exact q (.up C d) ms' r v Hs' H' pv' k1 T.sub k2 k3 h' d' dvv dd hdd
    · obtain ⟨ms', e0, r⟩ := e
      obtain ⟨k1, k2, k3, pv', h', d'⟩ := fin T e0
      exact q (.ok .none) ms' r .non Hs' H' pv' k1 T.sub k2 k3 h' d' .non
    · obtain ⟨ms', e0, r⟩ := e
      obtain ⟨k1, k2, k3, pv', h', d'⟩ := fin T e0
      exact q (.ok d) ms' r v Hs' H' pv' k1 T.sub k2 k3 h' d' dvv
theorem fn_pailTC {x qual : Str} {st : Stmt} {f : Addr} {fd : FuncData} {N ps : List Str} {k n : Nat} {cc : Addr} (T : List (Addr × Str)) (F : Fun K x qual st f fd) (hcode : fd.code = .ref cc) (S : FnScope N ps (defScope st)) (sm : ∃ o, K.lookup sysModules = some o) (hn : ps.length = n + 1) (pre : List PyData → List PyData → Prop) (R : List PyData → List PyData → Out → List PyData → Prop)
    (body : ∀ (A : Around) (outer : List Env) (s : Shared) (H : Hp) (E : XK) (B : Bas) (a : Addr) (ms ds : List PyData), ds.length = n → pre ms ds → B.T = T → (∀ p ∈ T, B.fr p.1 = none) →
      Bod (cxOf (L2.CX P w) P w K mg base N qual (defScope st) f (.ref cc) A outer s H E) k → Exc B (cxOf (L2.CX P w) P w K mg base N qual (defScope st) f (.ref cc) A outer s H E) (fun C d Γ => ∃ ms', Γ[0]? = some (.own a ms') ∧ R ms ds (.up C d) ms') →
      Gs B (cxOf (L2.CX P w) P w K mg base N qual (defScope st) f (.ref cc) A outer s H E) (defBody st) (slots0 N (.own a ms :: ds.map .d)) { nx := fun Γ => ∃ ms', Γ[0]? = some (.own a ms') ∧ R ms ds (.ok .none) ms', rt := fun d Γ => ∃ ms', Γ[0]? = some (.own a ms') ∧ R ms ds (.ok d) ms' }) :
    FnG P w K mg base (L2.CX P w) (k + 1) f fd ps (spT n pre R T) := by
  refine Fun.okGC F hcode S (fun vs H Q E h => ?_) (fun A outer s H vs Q E hr hgd h => ?_)
  · obtain ⟨Hs, a, pv, ws, ms, ds, rfl, _, _, _, _, d, l, _⟩ := h
    rw [List.length_cons, d.len, l, hn]
  · obtain ⟨Hs, a, pv, ws, ms, ds, rfl, sub, na, ha, dp, dv, l, hp, tb, q⟩ := h
    have tk := takes_of (X := cxOf (L2.CX P w) P w K mg base N qual (defScope st) f (.ref cc) A outer s H E) (E := E) rfl rfl rfl rfl
    -- all but the list and the tables
    generalize hG : (fun b => if b = a ∨ b ∈ T.map Prod.fst then none else H b : Hp) = G
    have Ga : G a = none := by rw [← hG]; exact if_pos (.inl rfl)
    have GT : ∀ p ∈ T, G p.1 = none := fun p hp => by rw [← hG]; exact if_pos (.inr (List.mem_map_of_mem hp))
    have Gb : ∀ b, b ≠ a → b ∉ T.map Prod.fst → G b = H b := fun b hb hc => by rw [← hG]; exact if_neg (fun z => z.elim hb hc)
    have GH : Same G H := fun b o e => by
      by_cases z : b = a ∨ b ∈ T.map Prod.fst
      · have e2 : G b = none := by rw [← hG]; exact if_pos z
        rw [e2] at e
        cases e
      · rw [← Gb b (fun y => z (.inl y)) (fun y => z (.inr y))]; exact e
    have S0 : Sx ⟨G, Hs, T⟩ Hs (L2.start N (.ref a :: ws)) H (slots0 N (.own a ms :: ds.map .d)) := by
      refine ⟨GH, Grow.refl _ _, sub, ?_, fun i t h => ?_, fun i j b es c fs h1 h2 n => ?_, tb⟩
      · show ((V.ref a :: ws).map some ++ List.replicate _ none).length = ((Sl.own a ms :: ds.map Sl.d) ++ _).length
        simp only [List.length_append, List.length_map, List.length_replicate, List.length_cons, dv.len]
      · rcases slots_get h with rfl | h
        · exact trivial
        · cases i with
          | zero =>
            have e : t = .own a ms := (Option.some.inj h).symm
            subst e
            exact ⟨start_get rfl, Ga, na, pv, ha, dp⟩
          | succ i =>
            obtain ⟨d, e, rfl⟩ := map_get (show (ds.map Sl.d)[i]? = some t from h)
            obtain ⟨v, ev, q⟩ := dvs_get dv e
            exact ⟨v, start_get (show (V.ref a :: ws)[i + 1]? = some v from ev), q⟩
      · rcases slots_get h1 with z | z
        · cases z
        · cases i with
          | succ i =>
            obtain ⟨d, _, z⟩ := map_get (show (ds.map Sl.d)[i]? = _ from z)
            cases z
          | zero =>
            rcases slots_get h2 with z2 | z2
            · cases z2
            · cases j with
              | zero => exact absurd rfl n
              | succ j =>
                obtain ⟨d, _, z⟩ := map_get (show (ds.map Sl.d)[j]? = _ from z2)
                cases z
    have fin : ∀ {Γ : List Sl} {Hs' : Hp} {σ' : L2.St} {H' : Hp} {ms' : List PyData}, Sx ⟨G, Hs, T⟩ Hs' σ' H' Γ → Γ[0]? = some (.own a ms') → (∀ b u, H b = some u → b ≠ a → (∀ p ∈ T, b ≠ p.1) → H' b = some u) ∧ Grow H Hs Hs' ∧ TbN T Hs' H' ∧ ∃ pv', H' a = some (.lst pv') ∧ DvAll Hs' pv' ms' := fun {Γ Hs' σ' H' ms'} Z e => by
      obtain ⟨_, _, n', pv', h', d'⟩ := Z.lst e
      have tb' : TbN T Hs' H' := Z.tb
      refine ⟨fun b u eb nb nt => Z.fr b u ((Gb b nb fun y => ?_).trans eb), ⟨Z.gr.same, fun b nb fb => ?_⟩, tb', pv', h', d'⟩
      · obtain ⟨p, hp, ep⟩ := List.mem_map.mp y
        exact nt p hp ep.symm
      · by_cases z : b = a
        · rw [z]
          exact n'
        · by_cases y : b ∈ T.map Prod.fst
          · obtain ⟨p, hp, ep⟩ := List.mem_map.mp y
            rw [← ep]
            exact tb'.2 p hp
          · exact Z.gr.off b nb (by show G b ≠ none; rw [Gb b z y]; exact fb)
    refine ⟨_, pss_W, body A outer s H E ⟨G, Hs, T⟩ a ms ds l hp rfl GT ⟨⟨hr, hgd, sm⟩, S.nd, rfl, PassesOwn.leaving⟩ ⟨_, tk, fun C d Γ v Hs' σ' H' e T dvv dd hdd => ?_⟩ _ Hs _ H ⟨fun Γ Hs' σ' H' e _ T => ?_, fun d Γ v Hs' σ' H' e _ T dvv => ?_, fun _ _ _ _ z => z.elim, fun _ _ _ _ z => z.elim⟩ S0⟩
    · obtain ⟨ms', e0, r⟩ := e
      obtain ⟨k1, k2, k3, pv', h', d'⟩ := fin T e0
      exact q (.up C d) ms' r v Hs' H' pv' k1 T.sub k2 k3 h' d' dvv dd hdd
    · obtain ⟨ms', e0, r⟩ := e
      obtain ⟨k1, k2, k3, pv', h', d'⟩ := fin T e0
      exact q (.ok .none) ms' r .non Hs' H' pv' k1 T.sub k2 k3 h' d' .non
    · obtain ⟨ms', e0, r⟩ := e
      obtain ⟨k1, k2, k3, pv', h', d'⟩ := fin T e0
      exact q (.ok d) ms' r v Hs' H' pv' k1 T.sub k2 k3 h' d' dvv
end
section
variable {B : Bas} {X : Cx} {Γ : List Sl} {pos : Pos} {k j n : Nat} {T : List (Addr × Str)} {P : Program} {w : World} {K : PySem.W.Frag} {mg : Str → Option Value} {base : Heap}
theorem ge_pailT (i : Nat) {x y : Str} {p py : Pos} {es : List Expr} {ps : List Str} {a : Addr} {ms0 : List PyData} {pre : List PyData → List PyData → Prop} {R : List PyData → List PyData → Out → List PyData → Prop} {ψ : Addr → PyData → List Sl → Prop} {φ : PyData → List Sl → Prop} (F : Call X.prog X.w X.K X.mg X.base (L2.CX X.prog X.w) j x ps (spT n pre R T)) (hT : B.T = T) (hB : ∀ p ∈ T, B.fr p.1 = none) (c : Cxt X k) (hj : j ≤ k) (hg : Gl X x) (ex : Exc B X ψ)
    (hN : X.N[i]? = some y) (hv : Vis X.env.scope y) (hΓ : Γ[i]? = some (.own a ms0))
    (h : GA B X es Γ fun ds Γ1 => ∃ ms, Γ1[i]? = some (.own a ms) ∧ ds.length = n ∧ pre ms ds ∧ ∀ o ms', R ms ds o ms' → o.to (fun d => φ d (Γ1.set i (.own a ms'))) (fun C d => ψ C d (Γ1.set i (.own a ms')))) (hdb : (x == ("__debug__" : Str)) = false := by decide)
    (hd : (y == ("__debug__" : Str)) = false := by decide) (hcd : (y == ("__classdict__" : Str)) = false := by decide)
    (he : starEach (.Name y py :: es) X.env = (false, eval (.Name y py) X.env) :: starEach es X.env := by rfl) (hpl : (backTo pos (starEach es X.env)).any (·.1) = false := by rfl) : GE B X (.Call (.Name x p) (.Name y py :: es) [] pos) Γ φ := fun Hs σ H Q S g => by
  obtain ⟨W, tk, hW⟩ := ex
  obtain ⟨e0, _⟩ := S.lst hΓ
  refine call_W F c hj hg tk hdb he hpl (pa_of (pa_cons (pe_var hN hv hd hcd) pa_W he) ⟨_, e0, h Hs σ H _ S fun ds Γ1 vs Hs1 H1 ⟨ms, g1, l, hp, q⟩ s1 S1 dv => ?_⟩)
  obtain ⟨_, f1, n1, pv, h1, d1⟩ := S1.lst g1
  have tb1 : TbN T Hs1 H1 := hT ▸ S1.tb
  refine ⟨Hs1, a, pv, vs, ms, ds, rfl, S1.sub, n1, h1, d1, dv, l, hp, tb1, fun o ms' r v Hs2 H2 pv' k1 k2 k3 k4 h2 d2 => ?_⟩
  have q := q o ms' r
  have kk : ∀ b, B.fr b ≠ none → H1 b ≠ none := fun b hb => by
    cases z : B.fr b with
    | none => exact absurd z hb
    | some u => rw [S1.fr b u z]; exact fun z => nomatch z
  have S2 : Sx B Hs2 σ H2 (Γ1.set i (.own a ms')) := by
    refine ⟨fun b u e => k1 b u (S1.fr b u e) (fun z => by rw [z, f1] at e; cases e) (fun p hp z => by rw [z, hB p hp] at e; cases e), S1.gr.trans (k3.mono kk), k2, by rw [List.length_set]; exact S1.len, fun j' t ej => ?_, fun j' l' b fs c' gs e1 e2 ne => ?_, hT ▸ k4⟩
    · rcases get_set ej with ⟨rfl, rfl⟩ | ⟨nj, ej⟩
      · exact ⟨(S1.lst g1).1, f1, k3.off a n1 (by rw [h1]; exact fun z => nomatch z), pv', h2, d2⟩
      · refine (S1.sl j' t ej).mono k3.same fun b fs z => ?_
        subst z
        obtain ⟨_, _, nb, vb, hb, _⟩ := S1.lst ej
        exact ⟨k3.off b nb (by rw [hb]; exact fun z => nomatch z), (k1 b _ hb (S1.ap j' i b fs a ms ej g1 nj) (fun p hp z => by
          obtain ⟨ps, e⟩ := tab_there tb1 hp
          rw [← z, hb] at e
          cases e)).trans hb.symm⟩
    · rcases get_set e1 with ⟨rfl, z⟩ | ⟨m1, d1⟩
      · cases z
        rcases get_set e2 with ⟨rfl, z⟩ | ⟨m2, d2⟩
        · exact absurd rfl ne
        · exact (S1.ap l' j' c' gs a ms d2 g1 m2).symm
      · rcases get_set e2 with ⟨rfl, z⟩ | ⟨m2, d2⟩
        · cases z
          exact S1.ap j' l' b fs a ms d1 g1 m1
        · exact S1.ap j' l' b fs c' gs d1 d2 ne
  cases o with
  | ok d => exact fun dd => g d _ v Hs2 H2 q (s1.trans k3.same) S2 dd
  | up C d => exact fun dvv dd hdd => hW C d _ v Hs2 σ H2 q S2 dvv dd hdd
theorem pailT_e {i : Nat} {x y : Str} {p py : Pos} {es : List Expr} {ps : List Str} {a : Addr} {ms0 : List PyData} {pre : List PyData → List PyData → Prop} {R : List PyData → List PyData → Out → List PyData → Prop} {ψ : Addr → PyData → List Sl → Prop} {φ : PyData → List Sl → Prop} (hX : SameX X P w K mg base) (F : Call P w K mg base (L2.CX P w) j x ps (spT n pre R T)) (hT : B.T = T) (hB : ∀ p ∈ T, B.fr p.1 = none) (c : Cxt X k) (hj : Nat.ble j k = true) (hg : Gl X x) (ex : Exc B X ψ)
    (hN : idxS X.N y = some i) (hv : Sees X.env.scope y = true) (hΓ : Γ[i]? = some (.own a ms0))
    (h : GA B X es Γ fun ds Γ1 => ∃ ms, Γ1[i]? = some (.own a ms) ∧ ds.length = n ∧ pre ms ds ∧ ∀ o ms', R ms ds o ms' → o.to (fun d => φ d (Γ1.set i (.own a ms'))) (fun C d => ψ C d (Γ1.set i (.own a ms')))) (hdb : (x == ("__debug__" : Str)) = false)
    (hd : (y == ("__debug__" : Str)) = false) (hcd : (y == ("__classdict__" : Str)) = false)
    (he : starEach (.Name y py :: es) X.env = (false, eval (.Name y py) X.env) :: starEach es X.env) (hpl : (backTo pos (starEach es X.env)).any (·.1) = false) : GE B X (.Call (.Name x p) (.Name y py :: es) [] pos) Γ φ := by
  obtain ⟨rfl, rfl, rfl, rfl, rfl⟩ := hX
  exact ge_pailT i F hT hB c (Nat.le_of_ble_eq_true hj) hg ex (idxS_ok hN) (sees_ok hv) hΓ h hdb hd hcd he hpl
end
/-! ### a list of two lambdas -/
def over (F H : Hp) (l : List Addr) : Hp := fun b => if (F b).isSome || l.contains b then H b else none
theorem over_fr {F H : Hp} {l : List Addr} {b : Addr} {u : HO} (s : Same F H) (e : F b = some u) : over F H l b = some u := by
  unfold over
  rw [e]
  exact s b u e
theorem over_in {F H : Hp} {l : List Addr} {b : Addr} (h : b ∈ l) : over F H l b = H b := by
  unfold over
  rw [show l.contains b = true from List.contains_iff_mem.mpr h, Bool.or_true]
  rfl
theorem over_none {F H : Hp} {l : List Addr} {b : Addr} (e : F b = none) (h : b ∉ l) : over F H l b = none := by
  unfold over
  rw [e, show l.contains b = false from by
    cases q : l.contains b with
    | false => rfl
    | true => exact absurd (List.contains_iff_mem.mp q) h]
  rfl
theorem over_same {F H : Hp} {l : List Addr} : Same (over F H l) H := fun b u e => by
  unfold over at e
  split at e
  · exact e
  · cases e
theorem _root_.Px.Sx.under {B B2 : Bas} {Hs : Hp} {σ : L2.St} {H : Hp} {Γ : List Sl} (s : Same B.fr B2.fr) (g : Grow B.fr B.hs B2.hs) (t : B2.T = B.T) (S : Sx B2 Hs σ H Γ) : Sx B Hs σ H Γ := by
  have up : ∀ b, B.fr b ≠ none → B2.fr b ≠ none := fun b hb => by
    cases z : B.fr b with
    | none => exact absurd z hb
    | some u => rw [s b u z]; exact fun z => nomatch z
  refine ⟨s.trans S.fr, g.trans (S.gr.mono up), S.sub, S.len, fun i x h => ?_, S.ap, t ▸ S.tb⟩
  have q := S.sl i x h
  cases x with
  | own a ds =>
    obtain ⟨q1, q2, q3⟩ := q
    refine ⟨q1, ?_, q3⟩
    cases z : B.fr a with
    | none => rfl
    | some u => exact absurd q2 (up a (by rw [z]; exact fun z => nomatch z))
  | _ => exact q
theorem _root_.Px.Exc.under {B B2 : Bas} {X : Cx} {ψ : Addr → PyData → List Sl → Prop} (s : Same B.fr B2.fr) (g : Grow B.fr B.hs B2.hs) (t : B2.T = B.T) (h : Exc B X ψ) : Exc B2 X ψ := by
  obtain ⟨W, tk, q⟩ := h
  exact ⟨W, tk, fun C d Γ v Hs σ H p S => q C d Γ v Hs σ H p (S.under s g t)⟩
theorem _root_.Px.Real.under {B B2 : Bas} {D : Ends} {E : DE} {H0 : Hp} (s : Same B.fr B2.fr) (g : Grow B.fr B.hs B2.hs) (t : B2.T = B.T) (R : Real B D E H0) : Real B2 D E H0 :=
  ⟨fun Γ Hs σ H p k S => R.nx Γ Hs σ H p k (S.under s g t), fun d Γ v Hs σ H p k S q => R.rt d Γ v Hs σ H p k (S.under s g t) q, fun Γ Hs σ H p k S => R.bk Γ Hs σ H p k (S.under s g t), fun Γ Hs σ H p k S => R.ct Γ Hs σ H p k (S.under s g t)⟩
open LamX (LamS TabB Tabs CodeO)
theorem gs_lams {B : Bas} {X : Cx} {Γ : List Sl} {E : DE} {T : List (Addr × Str)} {P c : Addr} {x : Str} {ix : Nat} {a1 a2 : Arguments} {b1 b2 : Expr} {sc1 sc2 : Scope} {l1 l2 lp p1 p2 ap cp spos epos : Pos} {rest : List Stmt}
    (TB : TabB X.base X.mg c P) (hcode : X.env.code = .ref c) (hm : (P, lamQ X) ∈ T) (hu : ∀ p ∈ T, p.1 = P → p.2 = lamQ X) (hT : B.T = T) (hB : ∀ p ∈ T, B.fr p.1 = none)
    (hd1 : defaultsOf a1 X.env = ([], [])) (S1 : LamS X.env.scope sc1) (hd2 : defaultsOf a2 X.env = ([], [])) (S2 : LamS X.env.scope sc2)
    (nd : X.N.Nodup) (hi : idxS X.N x = some ix) (hx : Loc X.env.scope x) (hf : X.fn x = true ∨ X.env.scope.names.lookup x = some .local) (hv : Vis X.env.scope x) (hl : Nat.ble (ix + 1) Γ.length = true)
    (hd : (x == ("__debug__" : Str)) = false) (hcd : (x == ("__classdict__" : Str)) = false)
    (hs1 : swapsWith (.List [.Lambda a1 b1 sc1 l1] lp) (some (.Name x p1)) spos.line X.env = pure false) (hs2 : swapsWith (.Call (.Attribute (.Name x p2) "append" ap) [.Lambda a2 b2 sc2 l2] [] cp) none epos.line X.env = pure false)
    (hbase : attributeBase (.Name x p2) "append" X.env (eval (.Name x p2) X.env) = eval (.Name x p2) X.env)
    (hfew : ((backTo cp (starEach [.Lambda a2 b2 sc2 l2] X.env)).all (fun x => !x.1) && (backToKw cp (keywordEach [] X.env)).all (fun x => x.1.isSome)
      && decide ([Expr.Lambda a2 b2 sc2 l2].length + ([] : List Keyword).length + (if ([] : List Keyword).isEmpty then 0 else 1) < 30)) = true)
    (hline : (ap.endLine == cp.line) = true)
    (h : ∀ (La f1 f2 c1 c2 : Addr) (pm1 ct1 pm2 ct2 : Value) (B2 : Bas), Same B.fr B2.fr → Grow B.fr B.hs B2.hs → B2.T = B.T → B2.fr La = some (.lst [.ref f1, .ref f2]) →
      B2.fr f1 = some (ObO f1 (lamO X a1 b1 sc1 pm1 c1 ct1)) → B2.fr c1 = some (CodeO c1 (lamQ X)) → B2.fr f2 = some (ObO f2 (lamO X a2 b2 sc2 pm2 c2 ct2)) → B2.fr c2 = some (CodeO c2 (lamQ X)) → Gs B2 X rest (Γ.set ix (.v (.ref La))) E) :
    Gs B X (.Assign [.Name x p1] (.List [.Lambda a1 b1 sc1 l1] lp) spos :: .Expr (.Call (.Attribute (.Name x p2) "append" ap) [.Lambda a2 b2 sc2 l2] [] cp) epos :: rest) Γ E := fun D Hs σ H R S => by
  have hi' := idxS_ok hi
  have lt : ix < σ.length := by rw [S.len]; exact Nat.le_of_ble_eq_true hl
  have tb0 : TbN T Hs H := hT ▸ S.tb
  have isP : ∀ {H : Hp}, Tabs T H → ∃ ps, H P = some (.tbl ps) := fun t => by
    obtain ⟨ps, e, _⟩ := t _ hm
    exact ⟨ps, e⟩
  refine pss_of (pss_cons (ps_set nd hi' hx (pe_lst (pa_cons (pe_lam TB hcode hm hu hd1 S1) pa_nil)) hs1 hf) (pss_cons (ps_expr (pe_bm PySem.F.plainAttrs_list PySem.F.slot_list_append PySem.F.type_list_append mt_append (pe_var hi' hv hd hcd) (pa_cons (pe_lam TB hcode hm hu hd2 S2) pa_nil) hbase hfew hline) hs2) pss_W)) ?_
  refine ⟨tb0.1, fun f1 c1 pm1 ct1 H1 k1 t1 n1 e1 => ⟨by show 1 ≤ sizeLine; decide, fun La hLa => ?_⟩⟩
  -- the list is there
  generalize hHA : upd H1 f1 (ObO f1 (lamO X a1 b1 sc1 pm1 c1 ct1)) = HA at hLa
  generalize hHB : upd HA La (.lst [V.ref f1]) = HB
  have A1 : HA f1 = some (ObO f1 (lamO X a1 b1 sc1 pm1 c1 ct1)) := by rw [← hHA]; exact upd_same
  have kA : ∀ b o, H1 b = some o → HA b = some o := fun b o e => by
    rw [← hHA, upd_ne (ne_new n1 e)]
    exact e
  have kB : ∀ b o, HA b = some o → HB b = some o := fun b o e => by
    rw [← hHB, upd_ne (ne_new hLa e)]
    exact e
  have tA : TbN T Hs HA := tabs_same ⟨t1, tb0.2⟩ kA
  have tB : TbN T Hs HB := tabs_same tA kB
  have BLa : HB La = some (.lst [V.ref f1]) := by rw [← hHB]; exact upd_same
  refine ⟨.ref La, List.getElem?_set_self lt, .inl ⟨rfl, _, .inl (.inl BLa)⟩, tB.1, fun f2 c2 pm2 ct2 H2 k2 t2 n2 e2 => ?_⟩
  have nP : ∀ {b o}, HB b = some o → (∀ ps, o ≠ .tbl ps) → b ≠ P := fun {b o} e n z => by
    obtain ⟨ps, y⟩ := isP tB.1
    rw [z, y] at e
    exact n ps (Option.some.inj e).symm
  have C2La : H2 La = some (.lst [V.ref f1]) := k2 _ _ BLa (nP BLa fun _ z => nomatch z)
  generalize hHC : upd H2 f2 (ObO f2 (lamO X a2 b2 sc2 pm2 c2 ct2)) = HC
  have kC : ∀ b o, H2 b = some o → HC b = some o := fun b o e => by
    rw [← hHC, upd_ne (ne_new n2 e)]
    exact e
  have CLa := kC _ _ C2La
  refine ⟨La, [V.ref f1], .ref f2, rfl, rfl, CLa, by show 1 < sizeLine; decide, ?_⟩
  show tssW X rest D (σ.set ix (some (.ref La))) (upd HC La (.lst [V.ref f1, V.ref f2]))
  generalize hHD : upd HC La (.lst [V.ref f1, V.ref f2]) = HD
  have kD : ∀ b o, HC b = some o → b ≠ La → HD b = some o := fun b o e n => by
    rw [← hHD, upd_ne n]
    exact e
  have DLa : HD La = some (.lst [V.ref f1, V.ref f2]) := by rw [← hHD]; exact upd_same
  have tC : TbN T Hs HC := tabs_same ⟨t2, tb0.2⟩ kC
  have tD : TbN T Hs HD := by rw [← hHD]; exact tabs_upd tC CLa
  have nLa : ∀ {b o}, HA b = some o → b ≠ La := fun {b o} e => ne_new hLa e
  -- from the list's making on
  have toD : ∀ b o, HA b = some o → b ≠ P → HD b = some o := fun b o e n => kD b o (kC _ _ (k2 _ _ (kB _ _ e) n)) (nLa e)
  have all : ∀ b o, H b = some o → b ≠ P → HD b = some o := fun b o e n => toD b o (kA _ _ (k1 _ _ e n)) n
  have A1c : HA c1 = some (CodeO c1 (lamQ X)) := kA _ _ e1
  have D1 : HD f1 = some (ObO f1 (lamO X a1 b1 sc1 pm1 c1 ct1)) := toD _ _ A1 (nP (kB _ _ A1) fun _ z => by unfold ObO at z; cases z)
  have D1c : HD c1 = some (CodeO c1 (lamQ X)) := toD _ _ A1c (nP (kB _ _ A1c) fun _ z => by unfold CodeO at z; cases z)
  have C2 : HC f2 = some (ObO f2 (lamO X a2 b2 sc2 pm2 c2 ct2)) := by rw [← hHC]; exact upd_same
  have D2 : HD f2 = some (ObO f2 (lamO X a2 b2 sc2 pm2 c2 ct2)) := kD _ _ C2 fun z => by rw [z, C2La] at n2; cases n2
  have D2c : HD c2 = some (CodeO c2 (lamQ X)) := kD _ _ (kC _ _ e2) fun z => by
    rw [z, C2La] at e2
    unfold CodeO at e2
    cases e2
  have hsP : ∀ b o, Hs b = some o → b ≠ P := fun b o e z => by
    have := tb0.2 _ hm
    rw [z] at e
    rw [show Hs P = none from this] at e
    cases e
  have frP : ∀ b o, B.fr b = some o → b ≠ P := fun b o e z => by
    have := hB _ hm
    rw [z] at e
    rw [show B.fr P = none from this] at e
    cases e
  have sD : Same Hs HD := fun b o e => all b o (S.sub b o e) (hsP b o e)
  have fD : Same B.fr HD := fun b o e => all b o (S.fr b o e) (frP b o e)
  have ss : Same B.fr (over B.fr HD [La, f1, f2, c1, c2]) := fun b o e => over_fr fD e
  have S3 : Sx ⟨over B.fr HD [La, f1, f2, c1, c2], Hs, B.T⟩ Hs σ HD Γ := by
    refine ⟨over_same, Grow.refl _ _, sD, S.len, fun i s hi => ?_, S.ap, hT.symm ▸ tD⟩
    have q := S.sl i s hi
    cases s with
    | own a ds =>
      obtain ⟨q1, q2, q3, vs, q4, q5⟩ := q
      have aP : a ≠ P := fun z => by
        obtain ⟨ps, y⟩ := isP tb0.1
        rw [z, y] at q4
        cases q4
      have aA : HA a = some (.lst vs) := kA _ _ (k1 _ _ q4 aP)
      have aD := all _ _ q4 aP
      refine ⟨q1, over_none q2 fun hm => ?_, q3, vs, aD, q5⟩
      simp only [List.mem_cons, List.not_mem_nil, or_false] at hm
      rcases hm with z | z | z | z | z
      · exact nLa aA z
      · rw [z, D1] at aD; unfold ObO at aD; cases aD
      · rw [z, D2] at aD; unfold ObO at aD; cases aD
      · rw [z, D1c] at aD; unfold CodeO at aD; cases aD
      · rw [z, D2c] at aD; unfold CodeO at aD; cases aD
    | _ => exact q
  have g0 : Grow B.fr B.hs Hs := S.gr
  refine h La f1 f2 c1 c2 pm1 ct1 pm2 ct2 ⟨over B.fr HD [La, f1, f2, c1, c2], Hs, B.T⟩ ss g0 rfl ?_ ?_ ?_ ?_ ?_ D Hs _ HD (R.under ss g0 rfl) (S3.putV (Nat.le_of_ble_eq_true hl))
  · exact (over_in (.head _)).trans DLa
  · exact (over_in (.tail _ (.head _))).trans D1
  · exact (over_in (.tail _ (.tail _ (.tail _ (.head _))))).trans D1c
  · exact (over_in (.tail _ (.tail _ (.head _)))).trans D2
  · exact (over_in (.tail _ (.tail _ (.tail _ (.tail _ (.head _)))))).trans D2c
section
variable {B : Bas} {X : Cx} {Γ : List Sl} {pos : Pos} {a b : Expr} {φ : PyData → List Sl → Prop}
theorem ge_in (kq : Bool) (hm : behindInMarks .In b = false) (h : GE B X a Γ fun d Γ1 => GQ B X kq b Γ1 fun ds Γ2 => InD d ds fun c => φ (.bool c) Γ2) : GE B X (.Compare a [.In] [b] pos) Γ φ := fun Hs σ H Q S g =>
  pe_of (pe_cmpR op_in_seq pe_W pe_W hm) (h Hs σ H _ S fun d Γ1 v Hs1 H1 p s1 S1 q1 => p Hs1 σ H1 _ S1 fun ds Γ2 c vs Hs2 H2 ⟨pd, pa, p2⟩ s2 S2 hq dv => by
    have q2 := q1.mono s2
    refine ⟨c, vs, rfl, by cases kq with | true => exact .inl hq | false => exact .inr hq, (plain_v q2).trans pd, (plains dv).trans pa, ?_⟩
    show Q (V.bl (inV v vs)) H2
    rw [plain_in q2 pd dv pa]
    exact g _ Γ2 _ Hs2 H2 p2 (s1.trans s2) S2 (.bl _))
end
end Py
section
open PySem PySem.Spec PyProof.Rows L2 Tc Px
local macro_rules | `(tactic| infer_instance) => `(tactic| first
  | ((with_reducible show (if _ = true then _ else _)); (with_reducible refine ite_t (by with_reducible rfl) ?_))
  | ((with_reducible show (if _ = true then _ else _)); (with_reducible refine ite_f (by with_reducible exact no_ft) ?_))
  | ((with_reducible show (if _ = true then _ else _)); (with_reducible refine ite_t (by with_reducible exact yes_nf) ?_))
  | ((with_reducible show (if _ = true then _ else _)); (with_reducible refine ite_f (by with_reducible exact no_nt) ?_))
  | (with_reducible refine gs_cons ?_)
  | (with_reducible refine g1_ret ?_)
  | (with_reducible refine g1_if ?_)
  | ((with_reducible show G1 _ _ (Stmt.Raise _ _ _) _ _); (with_reducible apply raise_e); (case R => with_reducible assumption); (exact ⟨rfl, rfl, rfl, rfl, rfl⟩); (with_reducible assumption); (eq_refl); (with_reducible assumption); rotate_left; (eq_refl); (decide))
  | ((with_reducible show G1 _ _ (Stmt.Assign [Expr.Name _ _] _ _) _ _); (with_reducible apply set_e); (with_reducible assumption); (eq_refl); (eq_refl); rotate_left; (eq_refl))
  | ((with_reducible show G1 _ _ (Stmt.Assign [Expr.Name _ _] _ _) _ _); (with_reducible apply set_cell); (with_reducible assumption); (eq_refl); (eq_refl); rotate_left; (eq_refl); (eq_refl))
  | (with_reducible refine ge_int ?_)
  | (with_reducible refine ge_str ?_)
  | (with_reducible refine ge_bool ?_)
  | (with_reducible refine ge_none ?_)
  | ((with_reducible show GE _ _ (Expr.Name _ _) _ _); (with_reducible apply name_e); (eq_refl); (eq_refl); (eq_refl); rotate_left; (decide); (decide))
  | ((with_reducible show GE _ _ (Expr.Name _ _) _ _); (with_reducible apply name_give); (eq_refl); (eq_refl); (eq_refl); rotate_left; (decide); (decide))
  | ((with_reducible show GE _ _ (Expr.Name _ _) _ _); (with_reducible apply num_e); (case hm => with_reducible assumption); (exact ⟨rfl, rfl, rfl, rfl, rfl⟩); (eq_refl); rotate_left; (decide))
  | ((with_reducible show GB _ _ (Expr.Name _ _) _ _); (with_reducible apply name_b); (eq_refl); (eq_refl); (eq_refl); rotate_left; (decide); (decide))
  | ((with_reducible show GQ _ _ _ (Expr.Name _ _) _ _); (with_reducible apply name_q); (eq_refl); (eq_refl); (eq_refl); rotate_left; (decide); (decide))
  | (with_reducible refine gt_not ?_)
  | (with_reducible refine gt_bool ?_)
  | (with_reducible refine gw_or1 ?_)
  | (with_reducible refine gw_and1 ?_)
  | (with_reducible refine gw_or ?_)
  | (with_reducible refine gw_and ?_)
  | ((with_reducible show GT _ _ (Expr.Compare _ [CmpOp.Eq] _ _) _ _); (with_reducible apply gt_eq); (first | with_reducible assumption | exact Bod.toCxt (by with_reducible assumption) | exact Cxt.blk (Bod.toCxt (by with_reducible assumption)) _ _ _ _ _ _ | exact Cxt.blk (Cxt.blk (Bod.toCxt (by with_reducible assumption)) _ _ _ _ _ _) _ _ _ _ _ _))
  | ((with_reducible show GT _ _ (Expr.Compare _ [CmpOp.NotEq] _ _) _ _); (with_reducible apply gt_ne); (first | with_reducible assumption | exact Bod.toCxt (by with_reducible assumption) | exact Cxt.blk (Bod.toCxt (by with_reducible assumption)) _ _ _ _ _ _ | exact Cxt.blk (Cxt.blk (Bod.toCxt (by with_reducible assumption)) _ _ _ _ _ _) _ _ _ _ _ _))
  | (with_reducible refine gt_lt ?_)
  | (with_reducible refine gt_gt ?_)
  | ((with_reducible show GT _ _ (Expr.Compare _ [CmpOp.LtE, CmpOp.LtE] _ _) _ _); (with_reducible apply gt_lele); (with_unfolding_all rfl))
  | ((with_reducible show GE _ _ (Expr.Compare _ [CmpOp.LtE, CmpOp.LtE] _ _) _ _); (with_reducible apply ge_lele); (with_unfolding_all rfl))
  | (with_reducible refine ge_one ?_)
  | (with_reducible refine ge_and ?_)
  | (with_reducible refine ge_not ?_)
  | (with_reducible refine ge_if ?_)
  | ((with_reducible show GE _ _ (Expr.Compare _ [CmpOp.Eq] _ _) _ _); (with_reducible apply ge_eq); (first | with_reducible assumption | exact Bod.toCxt (by with_reducible assumption) | exact Cxt.blk (Bod.toCxt (by with_reducible assumption)) _ _ _ _ _ _ | exact Cxt.blk (Cxt.blk (Bod.toCxt (by with_reducible assumption)) _ _ _ _ _ _) _ _ _ _ _ _))
  | (with_reducible refine ge_lt ?_)
  | (with_reducible refine ge_gt ?_)
  | (with_reducible refine ge_ge ?_)
  | (with_reducible refine ge_add ?_)
  | (with_reducible refine ge_sub ?_)
  | (with_reducible refine ge_mul ?_)
  | (with_reducible refine ge_mod ?_)
  | (with_reducible refine ge_fdiv ?_)
  | (with_reducible refine ge_pow ?_)
  | (with_reducible refine ge_slice ?_)
  | ((with_reducible show GE _ _ (Expr.Subscript (Expr.Name _ _) _ _) _ _); (with_reducible apply ixo_n); (eq_refl); (eq_refl); (eq_refl); (exact fun _ _ => rfl); rotate_left; (decide); (decide))
  | ((with_reducible show GE _ _ (Expr.Subscript _ _ _) _ _); (with_reducible apply ge_ix); (exact fun _ _ => rfl))
  | (with_reducible refine ge_tup ?_)
  | ((with_reducible show GA _ _ (_ :: _) _ _); (with_reducible apply ga_cons); rotate_left; (exact star_cons rfl))
  | (with_reducible refine ga_nil ?_)
  | (with_reducible refine go_none ?_)
  | (with_reducible refine go_some ?_)
  | ((with_reducible show GE _ _ (Expr.Call (Expr.Name "len" _) [Expr.Name _ _] _ _) _ _); (with_reducible apply len_writ); (case W => with_reducible assumption); (exact ⟨rfl, rfl, rfl, rfl, rfl⟩); (with_reducible eq_refl); (eq_refl); (exact Gls.len (by assumption)); (eq_refl); rotate_left; (decide); (exact star_cons rfl))
  | ((with_reducible show GE _ _ (Expr.Call (Expr.Name "len" _) _ _ _) _ _); (with_reducible apply ge_len); (with_reducible eq_refl); (eq_refl); (exact Gls.len (by assumption)); rotate_left; (exact star_cons rfl))
  | ((with_reducible show GE _ _ (Expr.Call (Expr.Name "isinstance" _) [_, Expr.Name "int" _] _ _) _ _); (with_reducible apply isi_int); (with_reducible eq_refl); (with_reducible eq_refl); (eq_refl); (exact Gls.isinstance (by assumption)); (eq_refl); (exact Gls.int (by assumption)); (exact star_cons rfl); (exact star_cons rfl); (eq_refl))
  | ((with_reducible show GE _ _ (Expr.Call (Expr.Name "isinstance" _) [_, Expr.Name "bool" _] _ _) _ _); (with_reducible apply isi_bool); (with_reducible eq_refl); (with_reducible eq_refl); (eq_refl); (exact Gls.isinstance (by assumption)); (eq_refl); (exact Gls.bool (by assumption)); (exact star_cons rfl); (exact star_cons rfl); (eq_refl))
  | ((with_reducible show GE _ _ (Expr.Call (Expr.Name "isinstance" _) [_, Expr.Name "tuple" _] _ _) _ _); (with_reducible apply isi_tuple); (with_reducible eq_refl); (with_reducible eq_refl); (eq_refl); (exact Gls.isinstance (by assumption)); (eq_refl); (exact Gls.tuple (by assumption)); (exact star_cons rfl); (exact star_cons rfl); (eq_refl))
  | ((with_reducible show GE _ _ (Expr.Call (Expr.Name "isinstance" _) [_, Expr.Name "str" _] _ _) _ _); (with_reducible apply isi_str); (with_reducible eq_refl); (with_reducible eq_refl); (eq_refl); (exact Gls.isinstance (by assumption)); (eq_refl); (exact Gls.str (by assumption)); (exact star_cons rfl); (exact star_cons rfl); (eq_refl))
  | ((with_reducible show GE _ _ (Expr.Call (Expr.Name "int" _) _ _ _) _ _); (with_reducible apply ge_int1); (with_reducible eq_refl); (eq_refl); (exact Gls.int (by assumption)); rotate_left; (exact star_cons rfl))
  | ((with_reducible show GE _ _ (Expr.Call (Expr.Name "sum" _) _ _ _) _ _); (with_reducible apply ge_sum); (eq_refl); (with_reducible eq_refl); (eq_refl); (exact Gls.sum (by assumption)); rotate_left; (exact star_cons rfl))
  | ((with_reducible show GE _ _ (Expr.Call (Expr.Name "max" _) [_] _ _) _ _); (with_reducible apply ge_max1); (eq_refl); (first | with_reducible assumption | exact Bod.toCxt (by with_reducible assumption) | exact Cxt.blk (Bod.toCxt (by with_reducible assumption)) _ _ _ _ _ _ | exact Cxt.blk (Cxt.blk (Bod.toCxt (by with_reducible assumption)) _ _ _ _ _ _) _ _ _ _ _ _); (with_reducible eq_refl); (eq_refl); (exact Gls.max (by assumption)); rotate_left; (exact star_cons rfl))
  | ((with_reducible show GE _ _ (Expr.Call (Expr.Name "all" _) _ _ _) _ _); (with_reducible apply ge_all); (eq_refl); (with_reducible eq_refl); (eq_refl); (exact Gls.all (by assumption)); rotate_left; (exact star_cons rfl))
  | ((with_reducible show GE _ _ (Expr.Call (Expr.Name "repr" _) _ _ _) _ _); (with_reducible apply ge_repr); (first | with_reducible assumption | exact Bod.toCxt (by with_reducible assumption) | exact Cxt.blk (Bod.toCxt (by with_reducible assumption)) _ _ _ _ _ _ | exact Cxt.blk (Cxt.blk (Bod.toCxt (by with_reducible assumption)) _ _ _ _ _ _) _ _ _ _ _ _); (with_reducible eq_refl); (eq_refl); (exact Gls.repr (by assumption)); rotate_left; (exact star_cons rfl))
  | ((with_reducible show GE _ _ (Expr.Call (Expr.Name "divmod" _) _ _ _) _ _); (with_reducible apply ge_divmod); (with_reducible eq_refl); (eq_refl); (exact Gls.divmod (by assumption)); rotate_left; (exact star_cons rfl); (eq_refl))
  | ((with_reducible show GE _ _ (Expr.Call (Expr.Name "tuple" _) _ _ _) _ _); (with_reducible apply ge_tupL); (with_reducible eq_refl); (eq_refl); (exact Gls.tuple (by assumption)); rotate_left; (exact star_cons rfl))
  | ((with_reducible show GE _ _ (Expr.Call (Expr.Attribute _ "find" _) _ _ _) _ _); (with_reducible apply ge_find); rotate_left; (eq_refl); (eq_refl); (eq_refl))
  | ((with_reducible show GE _ _ (Expr.Call (Expr.Attribute _ "join" _) _ _ _) _ _); (with_reducible apply ge_join); rotate_left; (eq_refl); (eq_refl); (eq_refl))
  | ((with_reducible show GE _ _ (Expr.Call (Expr.Name _ _) (_ :: _) [] _) _ _); (with_reducible apply call_e); (case F => with_reducible assumption); (exact ⟨rfl, rfl, rfl, rfl, rfl⟩); (first | with_reducible assumption | exact Bod.toCxt (by with_reducible assumption) | exact Cxt.blk (Bod.toCxt (by with_reducible assumption)) _ _ _ _ _ _ | exact Cxt.blk (Cxt.blk (Bod.toCxt (by with_reducible assumption)) _ _ _ _ _ _) _ _ _ _ _ _); (eq_refl); (eq_refl); (first | with_reducible assumption | exact Exc.none); rotate_left; (decide); (exact star_cons rfl); (eq_refl))
  | ((with_reducible show GE _ _ (Expr.Call (Expr.Name _ _) (_ :: _) [] _) _ _); (with_reducible apply pail_e); (case F => with_reducible assumption); (exact ⟨rfl, rfl, rfl, rfl, rfl⟩); (first | with_reducible assumption | exact Bod.toCxt (by with_reducible assumption) | exact Cxt.blk (Bod.toCxt (by with_reducible assumption)) _ _ _ _ _ _ | exact Cxt.blk (Cxt.blk (Bod.toCxt (by with_reducible assumption)) _ _ _ _ _ _) _ _ _ _ _ _); (eq_refl); (eq_refl); (first | with_reducible assumption | exact Exc.none); (eq_refl); (eq_refl); (eq_refl); rotate_left; (decide); (decide); (decide); (exact star_cons rfl); (eq_refl))
  | (with_reducible refine gf_list ?_)
  | (with_reducible refine gp_nil ?_)
  | (with_reducible refine gp_one ?_)
  | ((with_reducible show GT _ _ _ _ _); (with_reducible apply gt_ofE); rotate_left; (intro _; eq_refl))
  | (with_reducible refine gb_of ?_)
  | ((with_reducible show GE _ _ (Expr.List _ _) _ _); (with_reducible refine ge_ofF ?_))
  | ((with_reducible show GQ _ _ true (Expr.List _ _) _ _); (with_reducible refine gq_ofF ?_))
  | ((with_reducible show GE _ _ (Expr.ListComp _ _ _ _) _ _); (with_reducible refine ge_ofF ?_))
  | ((with_reducible show GQ _ _ true (Expr.ListComp _ _ _ _) _ _); (with_reducible refine gq_ofF ?_))
  | ((with_reducible show GE _ _ (Expr.BinOp _ _ _ _) _ _); (with_reducible refine ge_ofF ?_))
  | ((with_reducible show GQ _ _ true (Expr.BinOp _ _ _ _) _ _); (with_reducible refine gq_ofF ?_))
  | ((with_reducible show GE _ _ (Expr.Call _ _ _ _) _ _); (with_reducible refine ge_ofF ?_))
  | ((with_reducible show GQ _ _ true (Expr.Call _ _ _ _) _ _); (with_reducible refine gq_ofF ?_))
  | ((with_reducible show GI _ _ _ (Expr.Call (Expr.Name "range" _) [_] _ _) _ _); (with_reducible apply gi_rg1); (with_reducible eq_refl); (eq_refl); (exact Gls.range (by assumption)); rotate_left; (eq_refl))
  | ((with_reducible show GI _ _ _ (Expr.Name _ _) _ _); (with_reducible apply gi_writ); (case W => with_reducible assumption); (exact ⟨rfl, rfl, rfl, rfl, rfl⟩); (eq_refl); rotate_left; (decide))
  | (with_reducible refine gi_seq ?_)
  | (with_reducible refine add_ii ?_)
  | (with_reducible refine int0_i ?_)
  | (with_reducible refine ord_i ?_)
  | ((with_reducible show EqD _ _ _); (with_reducible apply eq_p); (eq_refl))
  | ((with_reducible show NeD _ _ _); (with_reducible apply ne_p); (eq_refl))
  | (with_reducible refine len_l ?_)
  | (with_reducible refine len_t ?_)
  | (with_reducible refine seq_l ?_)
  | (with_reducible refine seq_t ?_)
  | (with_reducible refine intf_i ?_)
  | (with_reducible refine sl_t ?_)
  | ((with_reducible show GC _ _ _ (Expr.Name _ _) _ _ _); (with_reducible apply gc_n); (with_reducible assumption); (eq_refl); (eq_refl); (eq_refl); (first | exact .inl rfl | exact .inr rfl); (eq_refl))
  | ((with_reducible show GC _ _ _ (Expr.Tuple _ _ _) _ _ _); (with_reducible apply gc_t); (eq_refl); (eq_refl); (eq_refl); (eq_refl))
  | ((with_reducible show GCs _ _ _ (Expr.Name _ _ :: _) _ _ _); (with_reducible apply gcs_n); (with_reducible assumption); (eq_refl); (eq_refl); (eq_refl); (first | exact .inl rfl | exact .inr rfl); (eq_refl); rotate_left; (eq_refl))
  | (with_reducible refine gcs_nil ?_)
  | (with_reducible refine gs_list ?_)
  | ((with_reducible show GS _ _ false (Expr.Name _ _) _ _); (with_reducible apply gs_writ); (case W => with_reducible assumption); (exact ⟨rfl, rfl, rfl, rfl, rfl⟩); (eq_refl); rotate_left; (decide))
  | (with_reducible refine gs_tup ?_)
  | (with_reducible refine gs_list ?_)
  | (with_reducible refine gs_list ?_)
  | (with_reducible refine gs_list ?_)
  | (with_reducible refine gs_list ?_)
  | ((with_reducible show GT _ _ (Expr.Compare _ [CmpOp.NotIn] [Expr.Name _ _] _) _ _); (with_reducible apply notin_writ); (case W => with_reducible assumption); (exact ⟨rfl, rfl, rfl, rfl, rfl⟩); (eq_refl); (with_unfolding_all rfl); rotate_left; (decide))
  | ((with_reducible show G1 _ _ (Stmt.Expr _ _) _ _); (with_reducible apply g1_expr); rotate_left; (eq_refl))
  | (with_reducible refine ge_neg ?_)
  | ((with_reducible show G1 _ _ (Stmt.Assign [Expr.Subscript (Expr.Name _ _) _ _] _ _) _ _); (with_reducible apply put_n); (eq_refl); (eq_refl); (eq_refl); rotate_left; (decide); (decide); (intro _; eq_refl); (eq_refl); (eq_refl); (eq_refl))
  | ((with_reducible show G1 _ _ (Stmt.Assign [Expr.Tuple _ _ _] _ _) _ _); (with_reducible apply asg_t); rotate_left; (eq_refl); (eq_refl); (eq_refl))
  | ((with_reducible show GG _ _ (Expr.Tuple _ _ _) _ _ _); (with_reducible apply gg_t); (eq_refl); (eq_refl); (eq_refl); (eq_refl))
  | ((with_reducible show GG _ _ (Expr.Name _ _) _ _ _); (with_reducible apply gg_n); (with_reducible assumption); (eq_refl); (eq_refl); (eq_refl); (first | exact .inl rfl | exact .inr rfl))
  | ((with_reducible show GG _ _ (Expr.Subscript (Expr.Name _ _) _ _) _ _ _); (with_reducible apply gg_put); (eq_refl); (eq_refl); (eq_refl); rotate_left; (decide); (decide); (intro _; eq_refl))
  | (with_reducible refine ggs_nil ?_)
  | ((with_reducible show GGs _ _ (Expr.Name _ _ :: _) _ _ _); (with_reducible apply ggs_n); (with_reducible assumption); (eq_refl); (eq_refl); (eq_refl); (first | exact .inl rfl | exact .inr rfl); rotate_left; (eq_refl))
  | ((with_reducible show GGs _ _ (Expr.Subscript (Expr.Name _ _) (Expr.Constant _ _ _) _ :: _) _ _ _); (with_reducible apply ggs_put0); (eq_refl); (eq_refl); (eq_refl); (eq_refl); rotate_left; (decide); (decide); (intro _; eq_refl); (eq_refl))
  | ((with_reducible show IxD (PyData.list _) (PyData.int _) _); (with_reducible apply ix_l); (eq_refl))
  | ((with_reducible show MulD (PyData.int _) (PyData.int _) _); (with_reducible apply mul_ii); (first | exact .inl (.inl ⟨by omega, by omega⟩) | exact .inl (.inr ⟨by omega, by omega⟩)))
  | (with_reducible refine ge_dict0 ?_)
  | ((with_reducible show MulD (PyData.tuple (_ :: _)) (PyData.int _) _); (with_reducible apply mul_ti); (decide); (eq_refl))
  | ((with_reducible show AddD (PyData.list _) (PyData.list _) _); (with_reducible apply add_l2); (eq_refl))
  | ((with_reducible show AddD (PyData.tuple _) (PyData.tuple _) _); (with_reducible apply add_t2); (eq_refl))
  | ((with_reducible show IntD _ _ (PyData.int _) (PyData.int _) _); (with_reducible apply mod_i); (first | decide | omega))
  | ((with_reducible show IntD _ _ (PyData.int _) (PyData.int _) _); (with_reducible apply fdiv_i); (first | decide | omega); (first | decide | omega))
  | ((with_reducible show (_ : List Sl) = _); rfl)
  | ((with_reducible show (∃ ds, _[_]? = some (Sl.own _ ds)) ∧ _); refine ⟨⟨_, rfl⟩, ?_⟩)
  | ((with_reducible show ∃ ds m, _[_]? = some (Sl.own _ ds) ∧ _); refine ⟨_, _, rfl, _, rfl, rfl, ?_⟩)
  | ((with_reducible show ∃ es, _[_]? = some (Sl.own _ es) ∧ _); refine ⟨_, rfl, ?_⟩)
  | ((with_reducible show Blk _ _ _); intro _ _ _ _ _)
  | ((with_reducible show Out.to _ _ _); (with_reducible refine to_t (by with_reducible rfl) ?_))
  | ((with_reducible show Out.to _ _ _); (with_reducible refine to_f (by with_reducible exact no_ft) ?_))
  | ((with_reducible show Out.to _ _ _); (with_reducible refine to_ok ?_))
  | ((with_reducible show Out.to _ _ _); (with_reducible refine to_up ?_))
  | (with_reducible refine ⟨len_ok rfl, ?_⟩)
  | (with_reducible refine ⟨_, rfl, ?_⟩)
  | (with_reducible refine ⟨_, _, rfl, ?_⟩)
  | (with_reducible refine ⟨rfl, ?_⟩)
  | (with_reducible refine ⟨trivial, ?_⟩)
  )
namespace K75
open PySem PySem.Spec PyProof.Rows L2 Tc
def topS (i : Nat) : Stmt := PySem.Challenge.pw_toldcounts_k75_whole_winners_by_rules.main.body.getD i (.Pass ⟨0, 0, 0, 0⟩)
abbrev s_is_integer : Stmt := topS 8
abbrev s_is_number : Stmt := topS 9
abbrev s_are_numbers : Stmt := topS 10
abbrev s_need_profile : Stmt := topS 14
abbrev s_put_at : Stmt := topS 15
abbrev s_put_ahead : Stmt := topS 16
abbrev s_firsts_of : Stmt := topS 17
abbrev s_need_rule : Stmt := topS 20
abbrev s_worths : Stmt := topS 21
abbrev s_is_ahead : Stmt := topS 22
abbrev s_iwinners : Stmt := topS 23
abbrev s_winners : Stmt := topS 24
abbrev s_lwell : Stmt := topS 26
abbrev s_ldraw : Stmt := topS 27
abbrev s_lof : Stmt := topS 28
abbrev s_lodd : Stmt := topS 29
abbrev s_lprofile : Stmt := topS 30
abbrev s_lsum : Stmt := topS 31
abbrev s_lwon : Stmt := topS 32
abbrev s_lled : Stmt := topS 33
abbrev s_lword : Stmt := topS 34
abbrev s_lheard : Stmt := topS 35
abbrev s_lall_end : Stmt := topS 36
abbrev s_lis_profile : Stmt := topS 37
abbrev s_lrefused_right : Stmt := topS 38
abbrev s_lright : Stmt := topS 39
abbrev s_law : Stmt := topS 40
def ex1 (x f : Str) (k : Kin) (n : Nat) : Str × Str × Kin × Nat := (x, f, k, n)
def al1 (x : Str) (k : Kin) : Str × Kin := (x, k)
def pl1 (x : Str) (n : Nat) : Str × Nat := (x, n)
def exs : List (Str × Str × Kin × Nat) := [ex1 "InvalidProfile" "given" .v 2, ex1 "InvalidRule" "given" .v 3]
def alls : List (Str × Kin) := [al1 "InvalidProfile" .v, al1 "InvalidRule" .v, al1 "WrongValue" .v, al1 "WrongName" .l, al1 "NotPossible" .a]
def fplaces : List (Str × Nat) := [pl1 "is_integer" 8, pl1 "is_number" 9, pl1 "are_numbers" 10, pl1 "need_profile" 14, pl1 "put_at" 15, pl1 "put_ahead" 16, pl1 "firsts_of" 17, pl1 "_need_rule" 20, pl1 "_worths" 21, pl1 "_is_ahead" 22, pl1 "_winners" 23, pl1 "winners" 24] ++ [pl1 "_law_well" 26, pl1 "_law_draw" 27, pl1 "_law_of" 28, pl1 "_law_odd" 29, pl1 "_law_profile" 30, pl1 "_law_sum" 31, pl1 "_law_won" 32, pl1 "_law_led" 33, pl1 "_law_word" 34, pl1 "_law_heard" 35, pl1 "_law_all_end" 36, pl1 "_law_is_profile" 37, pl1 "_law_refused_right" 38, pl1 "_law_right" 39, pl1 "law" 40]
def funs : List Str := fplaces.map (·.1)
def nums : List (Str × Int) := [("MOST_VOTERS", 60)]
def frees : List Str := (["len", "int", "abs", "divmod", "range", "isinstance", "repr", "bool", "max", "all", "tuple", "str", "list", "sum", "zip", "sorted", "min", "any", "enumerate", "reversed", "set", "ValueError", "LookupError", "ArithmeticError"] : List String).map Str.ofString
def dInit (e : Str × Str × Kin × Nat) : He.FnD := ⟨(e.1, some "__init__"), "__init__", e.1 ++ ".__init__", defArgs (inClass (topS e.2.2.2) 0), defBody (inClass (topS e.2.2.2) 0), defScope (inClass (topS e.2.2.2) 0)⟩
def dFun (p : Str × Nat) : He.FnD := ⟨(p.1, none), p.1, p.1, defArgs (topS p.2), defBody (topS p.2), defScope (topS p.2)⟩
def fn : List He.FnD := fplaces.map dFun ++ exs.map dInit
def tf : List He.Defn := [("_law_refused_right", none)]
def mroB (K : PySem.W.Frag) (x : Str) (l : List Value) : Bool := (match PySem.W.clsIn K (He.ga K x) with
  | some cd => decide (cd.mro = l)
  | none => false) && decide (PySem.W.typeIn K (.ref (He.ga K x)) = some (.type "type"))
def mros (K : PySem.W.Frag) : Bool := exs.all (fun e => mroB K e.1 ([.ref (He.ga K e.1), .ref (He.ga K "WrongValue")] ++ e.2.2.1.mro)) && ([al1 "WrongValue" .v, al1 "WrongName" .l, al1 "NotPossible" .a].all (fun e => mroB K e.1 (.ref (He.ga K e.1) :: e.2.mro)) &&
  !(He.ga K "InvalidProfile" == He.ga K "InvalidRule"))
def letters : List Str := ["a", "b", "c"]
def orders : List Str := ["abc", "acb", "bac", "bca", "cab", "cba"]
def rules : List Str := ["firsts", "lasts", "points", "pairs"]
def tups : List (Str × List Str) := [("LETTERS", letters), ("ORDERS", orders), ("_RULES", rules)]
def F (K : PySem.W.Frag) : Bool :=
  exs.all (fun e => exkB K e.2.2.1 e.1 e.2.1) && (alls.all (fun e => exaB K e.1 && (He.Fa.glo e.1).ok K) && (exsB K &&
  (funs.all (fun x => (He.Fa.glo x).ok K) && (frees.all (fun x => (He.Fa.free x).ok K) && (nums.all (fun e => (He.Fa.int e.1 e.2).ok K) &&
  (tups.all (fun e => (He.Fa.glo e.1).ok K && He.tupB K e.1 (e.2.map He.Dv.str)) && (mros K && (K.lookup sysModules).isSome)))))))
abbrev R : PySem.W.OpenRow := PySem.W.OpenLaw.row PySem.Challenge.rw_toldcounts_k75_whole_winners_by_rules
abbrev hk : PySem.W.Hook := hookTM F fn tf
def ob (s : PySem.W.SharedT) : He.Al × Bool := obsTM F fn tf (HandSHeadRun.getT s)
theorem ob_eq (s : PySem.W.SharedT) : ob s = hk.obs s.abs := obsTM_eq (HandSHeadRun.getT_eq s)
def loose : List Str := alls.map (·.1) ++ (nums.map (·.1) ++ (tups.map (·.1) ++ funs.dropLast))
theorem run (w : World) : HandSHeadRun.RunEq R (PySem.W.view R.prog [40]) hk ob 14000 loose w := by
  intro os
  kernel_rfl
end K75
namespace K75
open PySem PySem.Spec PyProof.Rows L2 Tc Px
local macro_rules | `(tactic| infer_instance) => `(tactic| first
  | (with_reducible refine gs_nil ?_)
  )
section
variable {P : Program} {w : World} {K : PySem.W.Frag} {mg : Str → Option Value} {base : Heap}
/-! data -/
def intB : PyData → Bool
  | .int _ => true
  | _ => false
def natB : PyData → Bool
  | .int i => decide (0 ≤ i)
  | _ => false
abbrev sp1 (f : PyData → PyData) : Sp := spF 1 (fun _ => True) fun ds => .ok (f (ds.headD .none))
theorem sc_is_integer : FnScope ["value"] ["value"] (defScope s_is_integer) := ⟨rfl, rfl, rfl, by decide +kernel, rfl, by decide +kernel, by decide +kernel⟩
theorem sc_is_number : FnScope ["value"] ["value"] (defScope s_is_number) := ⟨rfl, rfl, rfl, by decide +kernel, rfl, by decide +kernel, by decide +kernel⟩
theorem ok_is_integer {f : Addr} {fd : FuncData} (F : Fun K "is_integer" "is_integer" s_is_integer f fd) (sm : ∃ o, K.lookup sysModules = some o) (B : Gls mg) :
    FnG P w K mg base (L2.CX P w) 1 f fd ["value"] (sp1 fun d => .bool (intB d)) := by
  refine fn_data F sc_is_integer sm (by decide) _ _ fun cdv A outer s H E Bs ds hl hp c ex => ?_
  match ds, hl with
  | [d], _ =>
  refine gs_cons ?_
  repeat infer_instance
  rw [isD_int]
  cases d <;> (repeat infer_instance)
  all_goals first | exact rfl | (rw [isD_bool]; repeat infer_instance; exact rfl)
theorem ok_is_number (F1 : Call P w K mg base (L2.CX P w) 1 "is_integer" ["value"] (sp1 fun d => .bool (intB d))) {f : Addr} {fd : FuncData} (F : Fun K "is_number" "is_number" s_is_number f fd) (sm : ∃ o, K.lookup sysModules = some o) (B : Gls mg) :
    FnG P w K mg base (L2.CX P w) 2 f fd ["value"] (sp1 fun d => .bool (natB d)) := by
  refine fn_data F sc_is_number sm (by decide) _ _ fun cdv A outer s H E Bs ds hl hp c ex => ?_
  match ds, hl with
  | [d], _ =>
  refine gs_cons ?_
  repeat infer_instance
  rw [List.headD_cons]
  cases d <;> (generalize hb : intB _ = t; cases t <;> first | cases hb | skip)
  all_goals repeat infer_instance
  all_goals exact rfl
def numsB (m : Int) : PyData → Bool
  | .tuple ds => decide ((ds.length : Int) = m) && ds.all natB
  | _ => false
theorem sc_are_numbers : FnScope ["value", "many", "number"] ["value", "many"] (defScope s_are_numbers) := ⟨rfl, rfl, rfl, by decide +kernel, rfl, by decide +kernel, by decide +kernel⟩
theorem ok_are_numbers (F1 : Call P w K mg base (L2.CX P w) 2 "is_number" ["value"] (sp1 fun d => .bool (natB d))) {f : Addr} {fd : FuncData} (F : Fun K "are_numbers" "are_numbers" s_are_numbers f fd) (sm : ∃ o, K.lookup sysModules = some o) (B : Gls mg) (m : Int) (hm : m ≤ 1000) :
    FnG P w K mg base (L2.CX P w) 3 f fd ["value", "many"] (spF 2 (fun ds => ds.tail.headD .none = .int m) fun ds => .ok (.bool (numsB m (ds.headD .none)))) := by
  refine fn_data F sc_are_numbers sm (by decide) _ _ fun cdv A outer s H E Bs ds hl hp c ex => ?_
  match ds, hl, hp with
  | [d, _], _, rfl =>
  have nd := sc_are_numbers.nd
  refine gs_cons ?_
  repeat infer_instance
  rw [isD_tuple]
  cases d <;> (dsimp only; repeat infer_instance)
  all_goals try exact rfl
  all_goals (generalize hb : PyData.eqv _ _ = t; cases t)
  all_goals repeat infer_instance
  · rw [eqv_int] at hb
    show Out.ok (.bool (decide _ && _)) = _
    rw [hb] <;> rfl
  all_goals (rw [eqv_int] at hb; have hb := of_decide_eq_true hb)
  all_goals ((with_reducible apply gf_lk); (eq_refl); (assumption); (eq_refl); (eq_refl); (eq_refl); (intro _; eq_refl))
  all_goals repeat infer_instance
  rename_i xs _ _
  refine ⟨Nat.le_trans (show xs.length ≤ 1000 by omega) (by decide), fun _ => true, fun i => .bool (natB (nth xs i)), fun i hi B' => ?_, ?_⟩
  · repeat infer_instance
    all_goals rfl
  · repeat infer_instance
    refine all_look ?_
    show Out.ok (.bool (decide _ && _)) = _
    rw [decide_eq_true hb] <;> rfl
end
end K75
namespace K75
open PySem PySem.Spec PyProof.Rows L2 Tc Px
local macro_rules | `(tactic| infer_instance) => `(tactic| first
  | (with_reducible refine gs_nil ?_)
  )
section
variable {P : Program} {w : World} {K : PySem.W.Frag} {mg : Str → Option Value} {base : Heap}
def profB : PyData → Bool
  | .tuple ds => decide ((ds.length : Int) = 6) && ds.all natB && (decide (1 ≤ (ds.map asI).sum) && decide ((ds.map asI).sum ≤ 60))
  | _ => false
theorem prof_no {d : PyData} (h : numsB 6 d = false) : profB d = false := by
  cases d with
  | tuple xs =>
    have h : (decide ((xs.length : Int) = 6) && xs.all natB) = false := h
    show ((decide ((xs.length : Int) = 6) && xs.all natB) && _) = false
    rw [h] <;> rfl
  | _ => rfl
theorem nums_tup {d : PyData} (h : numsB 6 d = true) : ∃ xs, d = .tuple xs ∧ xs.length = 6 ∧ xs.all natB = true := by
  cases d with
  | tuple xs =>
    obtain ⟨a, b⟩ := (Bool.and_eq_true _ _).mp h
    have a := of_decide_eq_true a
    exact ⟨xs, rfl, by omega, b⟩
  | _ => cases h
theorem nat_int {ds : List PyData} (h : ds.all natB = true) : ds.all isI = true := List.all_eq_true.mpr fun x hx => by
  have z := List.all_eq_true.mp h x hx
  cases x <;> first | rfl | cases z
abbrev strsD (l : List Str) : List PyData := strL l
theorem sc_need_profile : FnScope ["profile"] ["profile"] (defScope s_need_profile) := ⟨rfl, rfl, rfl, by decide +kernel, rfl, by decide +kernel, by decide +kernel⟩
theorem ok_need_profile {aO C : Addr} (WO : Writ K mg "ORDERS" aO (strsD orders)) (RP : Rz K mg "InvalidProfile" C) (mv : ∃ t, mg "MOST_VOTERS" = some (.int 60 t))
    (F1 : Call P w K mg base (L2.CX P w) 3 "are_numbers" ["value", "many"] (spF 2 (fun ds => ds.tail.headD .none = .int 6) fun ds => .ok (.bool (numsB 6 (ds.headD .none))))) {f : Addr} {fd : FuncData} (F : Fun K "need_profile" "need_profile" s_need_profile f fd) (sm : ∃ o, K.lookup sysModules = some o) (B : Gls mg) :
    FnG P w K mg base (L2.CX P w) 4 f fd ["profile"] (spF 1 (fun _ => True) fun ds => if profB (ds.headD .none) = true then .ok .none else .up C (ds.headD .none)) := by
  refine fn_data F sc_need_profile sm (by decide) _ _ fun cdv A outer s H E Bs ds hl hp c ex => ?_
  match ds, hl, hp with
  | [d], _, _ =>
  refine gs_cons ?_
  repeat infer_instance
  rw [List.headD_cons]
  generalize hb : numsB 6 d = t
  cases t
  · repeat infer_instance
    rw [List.headD_cons, prof_no hb] <;> rfl
  obtain ⟨xs, rfl, hn, ha⟩ := nums_tup hb
  have hp : profB (.tuple xs) = (decide (1 ≤ (xs.map asI).sum) && decide ((xs.map asI).sum ≤ 60)) := by
    show ((decide ((xs.length : Int) = 6) && xs.all natB) && _) = _
    rw [decide_eq_true (show (xs.length : Int) = 6 by omega), ha, Bool.true_and, Bool.true_and]
  repeat infer_instance
  refine sum_tup (nat_int ha) ?_
  repeat infer_instance
  generalize h1 : decide (1 ≤ (xs.map asI).sum) = t
  cases t
  · repeat infer_instance
    rw [h1] at hp
    rw [List.headD_cons, hp] <;> rfl
  repeat infer_instance
  generalize h2 : decide ((xs.map asI).sum ≤ 60) = t
  rw [h1, h2] at hp
  cases t
  · repeat infer_instance
    rw [List.headD_cons, hp] <;> rfl
  · repeat infer_instance
    rw [List.headD_cons, hp] <;> rfl
end
end K75
namespace K75
open PySem PySem.Spec PyProof.Rows L2 Tc Px
local macro_rules | `(tactic| infer_instance) => `(tactic| first
  | (with_reducible refine gs_nil ?_)
  )
section
variable {P : Program} {w : World} {K : PySem.W.Frag} {mg : Str → Option Value} {base : Heap}
/-- the i-th order's sign at a place -/
def chAt (z : Str) (j : Int) : Str := ((atI z.cps.toList j).map fun c => (⟨#[c]⟩ : Str)).getD ""
def ordN (i : Nat) : Str := orders.getD i ""
def at3 (i : Nat) (j : Int) : Str := chAt (ordN i) j
def putAt (xs : List PyData) (l : Str) (j : Int) : Int := (((List.range 6).filter fun i => decide (at3 i j = l)).map fun i => asI (nth xs i)).sum
def preAt (ds : List PyData) : Prop := ∃ (xs : List PyData) (l : Str) (j : Int), ds = [.tuple xs, .str l, .int j] ∧ xs.length = 6 ∧ xs.all isI = true ∧ 0 ≤ j ∧ j < 3
def putAtD : List PyData → PyData
  | [.tuple xs, .str l, .int j] => .int (putAt xs l j)
  | _ => .none
theorem ord_at {i : Nat} (hi : i < 6) : nth (strsD orders) i = .str (ordN i) := by
  match i, hi with
  | 0, _ | 1, _ | 2, _ | 3, _ | 4, _ | 5, _ => rfl
theorem ord_ix {i : Nat} (hi : i < 6) {j : Int} (h0 : 0 ≤ j) (h3 : j < 3) {k : PyData → Prop} (h : k (.str (at3 i j))) : IxD (.str (ordN i)) (.int j) k := by
  obtain rfl | rfl | rfl : j = 0 ∨ j = 1 ∨ j = 2 := by omega
  all_goals
    match i, hi with
    | 0, _ | 1, _ | 2, _ | 3, _ | 4, _ | 5, _ => exact ⟨by decide, _, rfl, h⟩
theorem six {xs : List PyData} (hn : xs.length = 6) (F : Nat → PyData) (p : Nat → Bool) (g : ∀ i, i < 6 → F i = nth xs i) (h : xs.all isI = true) : ((((List.range 6).filter p).map F).all isI) = true := by
  rw [List.all_map]
  refine List.all_eq_true.mpr fun i hi => ?_
  have l : i < 6 := List.mem_range.mp (List.mem_filter.mp hi).1
  show isI (F i) = true
  rw [g i l]
  have e : xs[i]? = some (xs[i]'(by omega)) := List.getElem?_eq_getElem _
  rw [nth_at e]
  exact List.all_eq_true.mp h _ (List.getElem_mem _)
theorem sc_put_at : FnScope ["profile", "letter", "at", "many", "order"] ["profile", "letter", "at"] (defScope s_put_at) := ⟨rfl, rfl, rfl, by decide +kernel, rfl, by decide +kernel, by decide +kernel⟩
theorem ok_put_at {aO : Addr} (WO : Writ K mg "ORDERS" aO (strsD orders)) {f : Addr} {fd : FuncData} (F : Fun K "put_at" "put_at" s_put_at f fd) (sm : ∃ o, K.lookup sysModules = some o) (B : Gls mg) :
    FnG P w K mg base (L2.CX P w) 1 f fd ["profile", "letter", "at"] (spF 3 preAt fun ds => .ok (putAtD ds)) := by
  refine fn_data F sc_put_at sm (by decide) _ _ fun cdv A outer s H E Bs ds hl hp c ex => ?_
  have nd := sc_put_at.nd
  obtain ⟨xs, l, j, rfl, hn, ha, h0, h3⟩ := hp
  refine gs_cons ?_
  repeat infer_instance
  ((with_reducible apply gf_lk); (eq_refl); (assumption); (eq_refl); (eq_refl); (eq_refl); (intro _; eq_refl))
  ((with_reducible apply gi_zip false false); (eq_refl); (eq_refl); (exact Gls.zip (by assumption)); (eq_refl); (eq_refl); (eq_refl))
  repeat infer_instance
  refine ⟨⟨trivial, trivial⟩, ?_⟩
  rw [show min xs.length (strsD orders).length = 6 by rw [hn] <;> rfl]
  refine ⟨by decide, fun i => PyData.eqv (.str (at3 i j)) (.str l), fun i => nth xs i, fun i hi B' => ?_, ?_⟩
  · repeat infer_instance
    rw [ord_at hi]
    refine ord_ix hi h0 h3 ?_
    repeat infer_instance
    generalize PyData.eqv (.str (at3 i j)) (.str l) = t
    cases t <;> (repeat infer_instance) <;> rfl
  · repeat infer_instance
    refine sum_lst (six hn _ _ (fun _ _ => rfl) ha) ?_
    repeat infer_instance
    show Out.ok (.int (putAt xs l j)) = _
    unfold putAt
    rw [List.map_map]
    simp only [eqv_str]
    all_goals rfl
end
end K75
namespace K75
open PySem PySem.Spec PyProof.Rows L2 Tc Px
local macro_rules | `(tactic| infer_instance) => `(tactic| first
  | (with_reducible refine gs_nil ?_)
  )
section
variable {P : Program} {w : World} {K : PySem.W.Frag} {mg : Str → Option Value} {base : Heap}
def putAhead (xs : List PyData) (l o : Str) : Int := (((List.range 6).filter fun i => decide (Txt.find (ordN i) l < Txt.find (ordN i) o)).map fun i => asI (nth xs i)).sum
def preAh (ds : List PyData) : Prop := ∃ (xs : List PyData) (l o : Str), ds = [.tuple xs, .str l, .str o] ∧ xs.length = 6 ∧ xs.all isI = true
def putAhD : List PyData → PyData
  | [.tuple xs, .str l, .str o] => .int (putAhead xs l o)
  | _ => .none
def pre6 (ds : List PyData) : Prop := ∃ xs : List PyData, ds = [.tuple xs] ∧ xs.length = 6 ∧ xs.all isI = true
def letN (i : Nat) : Str := letters.getD i ""
theorem let_at {i : Nat} (hi : i < 3) : nth (strsD letters) i = .str (letN i) := by
  match i, hi with
  | 0, _ | 1, _ | 2, _ => rfl
def firstsL (xs : List PyData) : List PyData := ((List.range 3).filter fun _ => true).map fun i => .int (putAt xs (letN i) 0)
def firstsD : List PyData → PyData
  | [.tuple xs] => .list (firstsL xs)
  | _ => .none
theorem sc_put_ahead : FnScope ["profile", "letter", "other", "many", "order"] ["profile", "letter", "other"] (defScope s_put_ahead) := ⟨rfl, rfl, rfl, by decide +kernel, rfl, by decide +kernel, by decide +kernel⟩
theorem sc_firsts_of : FnScope ["profile", "letter"] ["profile"] (defScope s_firsts_of) := ⟨rfl, rfl, rfl, by decide +kernel, rfl, by decide +kernel, by decide +kernel⟩
theorem ok_put_ahead {aO : Addr} (WO : Writ K mg "ORDERS" aO (strsD orders)) {f : Addr} {fd : FuncData} (F : Fun K "put_ahead" "put_ahead" s_put_ahead f fd) (sm : ∃ o, K.lookup sysModules = some o) (B : Gls mg) :
    FnG P w K mg base (L2.CX P w) 1 f fd ["profile", "letter", "other"] (spF 3 preAh fun ds => .ok (putAhD ds)) := by
  refine fn_data F sc_put_ahead sm (by decide) _ _ fun cdv A outer s H E Bs ds hl hp c ex => ?_
  have nd := sc_put_ahead.nd
  obtain ⟨xs, l, o, rfl, hn, ha⟩ := hp
  refine gs_cons ?_
  repeat infer_instance
  ((with_reducible apply gf_lk); (eq_refl); (assumption); (eq_refl); (eq_refl); (eq_refl); (intro _; eq_refl))
  ((with_reducible apply gi_zip false false); (eq_refl); (eq_refl); (exact Gls.zip (by assumption)); (eq_refl); (eq_refl); (eq_refl))
  repeat infer_instance
  refine ⟨⟨trivial, trivial⟩, ?_⟩
  rw [show min xs.length (strsD orders).length = 6 by rw [hn] <;> rfl]
  refine ⟨by decide, fun i => decide (Txt.find (ordN i) l < Txt.find (ordN i) o), fun i => nth xs i, fun i hi B' => ?_, ?_⟩
  · repeat infer_instance
    refine ⟨_, ord_at hi, ?_⟩
    repeat infer_instance
    refine ⟨_, ord_at hi, ?_⟩
    repeat infer_instance
    generalize decide (Txt.find (ordN i) l < Txt.find (ordN i) o) = t
    cases t <;> (repeat infer_instance) <;> rfl
  · repeat infer_instance
    refine sum_lst (six hn _ _ (fun _ _ => rfl) ha) ?_
    repeat infer_instance
    show Out.ok (.int (putAhead xs l o)) = _
    unfold putAhead
    rw [List.map_map]
    all_goals rfl
theorem ok_firsts_of {aL : Addr} (WL : Writ K mg "LETTERS" aL (strsD letters)) (F1 : Call P w K mg base (L2.CX P w) 1 "put_at" ["profile", "letter", "at"] (spF 3 preAt fun ds => .ok (putAtD ds))) {f : Addr} {fd : FuncData} (F : Fun K "firsts_of" "firsts_of" s_firsts_of f fd) (sm : ∃ o, K.lookup sysModules = some o) (B : Gls mg) :
    FnG P w K mg base (L2.CX P w) 2 f fd ["profile"] (spF 1 pre6 fun ds => .ok (firstsD ds)) := by
  refine fn_data F sc_firsts_of sm (by decide) _ _ fun cdv A outer s H E Bs ds hl hp c ex => ?_
  have nd := sc_firsts_of.nd
  obtain ⟨xs, rfl, hn, ha⟩ := hp
  refine gs_cons ?_
  repeat infer_instance
  ((with_reducible apply gf_lk); (eq_refl); (assumption); (eq_refl); (eq_refl); (eq_refl); (intro _; eq_refl))
  repeat infer_instance
  refine ⟨fun i => true, fun i => .int (putAt xs (letN i) 0), fun i hi B' => ?_, ?_⟩
  · repeat infer_instance
    refine ⟨⟨xs, letN i, 0, by rw [let_at hi], hn, ha, by decide, by decide⟩, ?_⟩
    rw [let_at hi]
    show (Out.ok (.int (putAt xs (letN i) 0))).to _ _
    repeat infer_instance
    all_goals rfl
  · repeat infer_instance
    exact rfl
end
end K75
namespace K75
open PySem PySem.Spec PyProof.Rows L2 Tc Px
local macro_rules | `(tactic| infer_instance) => `(tactic| first
  | (with_reducible refine gs_nil ?_)
  )
section
variable {P : Program} {w : World} {K : PySem.W.Frag} {mg : Str → Option Value} {base : Heap}
def ruleB : PyData → Bool
  | .str z => rules.any fun y => decide (y = z)
  | _ => false
theorem sc_need_rule : FnScope ["rule"] ["rule"] (defScope s_need_rule) := ⟨rfl, rfl, rfl, by decide +kernel, rfl, by decide +kernel, by decide +kernel⟩
theorem ok_need_rule {aR C : Addr} (WR : Writ K mg "_RULES" aR (strsD rules)) (RR : Rz K mg "InvalidRule" C) {f : Addr} {fd : FuncData} (F : Fun K "_need_rule" "_need_rule" s_need_rule f fd) (sm : ∃ o, K.lookup sysModules = some o) (B : Gls mg) :
    FnG P w K mg base (L2.CX P w) 1 f fd ["rule"] (spF 1 (fun _ => True) fun ds => if ruleB (ds.headD .none) = true then .ok .none else .up C (ds.headD .none)) := by
  refine fn_data F sc_need_rule sm (by decide) _ _ fun cdv A outer s H E Bs ds hl hp c ex => ?_
  have nd := sc_need_rule.nd
  match ds, hl, hp with
  | [d], hl, hp =>
  refine gs_cons ?_
  repeat infer_instance
  rw [isD_str]
  cases d with
  | str z =>
    dsimp only
    repeat infer_instance
    refine ⟨rfl, strs_plain _, ?_⟩
    rw [strs_in]
    generalize hb : (rules.any fun y => decide (y = z)) = t
    have hb : ruleB (.str z) = t := hb
    cases t <;> (repeat infer_instance)
    all_goals rw [List.headD_cons, hb] <;> rfl
  | _ =>
    dsimp only
    repeat infer_instance
    all_goals rfl
end
end K75
namespace K75
open PySem PySem.Spec PyProof.Rows L2 Tc Px
local macro_rules | `(tactic| infer_instance) => `(tactic| first
  | (with_reducible refine gs_nil ?_)
  )
section
variable {P : Program} {w : World} {K : PySem.W.Frag} {mg : Str → Option Value} {base : Heap}
def negL (xs : List PyData) : List PyData := ((List.range 3).filter fun _ => true).map fun i => .int (-(putAt xs (letN i) 2))
def difL (xs : List PyData) : List PyData := ((List.range 3).filter fun _ => true).map fun i => .int (putAt xs (letN i) 0 - putAt xs (letN i) 2)
def worthL (xs : List PyData) (r : Str) : List PyData := if decide (r = "firsts") = true then firstsL xs else if decide (r = "lasts") = true then negL xs else difL xs
def pre6r (ds : List PyData) : Prop := ∃ (xs : List PyData) (r : Str), ds = [.tuple xs, .str r] ∧ xs.length = 6 ∧ xs.all isI = true
def worthD : List PyData → PyData
  | [.tuple xs, .str r] => .list (worthL xs r)
  | _ => .none
theorem nth3 (F : Nat → PyData) {i : Nat} (hi : i < 3) : nth (((List.range 3).filter fun _ => true).map F) i = F i := by
  match i, hi with
  | 0, _ | 1, _ | 2, _ => rfl
theorem sc_worths : FnScope ["profile", "rule", "firsts", "lasts", "letter", "many", "first", "last"] ["profile", "rule"] (defScope s_worths) := ⟨rfl, rfl, rfl, by decide +kernel, rfl, by decide +kernel, by decide +kernel⟩
theorem ok_worths {aL : Addr} (WL : Writ K mg "LETTERS" aL (strsD letters)) (F1 : Call P w K mg base (L2.CX P w) 1 "put_at" ["profile", "letter", "at"] (spF 3 preAt fun ds => .ok (putAtD ds))) (F2 : Call P w K mg base (L2.CX P w) 2 "firsts_of" ["profile"] (spF 1 pre6 fun ds => .ok (firstsD ds)))
    {f : Addr} {fd : FuncData} (F : Fun K "_worths" "_worths" s_worths f fd) (sm : ∃ o, K.lookup sysModules = some o) (B : Gls mg) :
    FnG P w K mg base (L2.CX P w) 3 f fd ["profile", "rule"] (spF 2 pre6r fun ds => .ok (worthD ds)) := by
  refine fn_data F sc_worths sm (by decide) _ _ fun cdv A outer s H E Bs ds hl hp c ex => ?_
  have nd := sc_worths.nd
  obtain ⟨xs, r, rfl, hn, ha⟩ := hp
  refine gs_cons ?_
  repeat infer_instance
  refine ⟨⟨xs, rfl, hn, ha⟩, ?_⟩
  show (Out.ok (.list (firstsL xs))).to _ _
  repeat infer_instance
  ((with_reducible apply set_ld); (assumption); (assumption); (eq_refl); (eq_refl); (eq_refl); (eq_refl); (eq_refl); (eq_refl); (intro _; eq_refl))
  repeat infer_instance
  refine ⟨fun i => true, fun i => .int (putAt xs (letN i) 2), fun i hi B' => ?_, ?_⟩
  · repeat infer_instance
    refine ⟨⟨xs, letN i, 2, by rw [let_at hi] <;> rfl, hn, ha, by decide, by decide⟩, ?_⟩
    rw [let_at hi]
    show (Out.ok (.int (putAt xs (letN i) 2))).to _ _
    repeat infer_instance
    all_goals rfl
  repeat infer_instance
  rw [eqv_str]
  generalize h1 : decide (r = "firsts") = t
  cases t
  case true =>
    repeat infer_instance
    show Out.ok (.list (worthL xs r)) = _
    unfold worthL
    rw [h1] <;> rfl
  repeat infer_instance
  rw [eqv_str]
  generalize h2 : decide (r = "lasts") = t
  cases t
  case true =>
    repeat infer_instance
    ((with_reducible apply gf_lk); (eq_refl); (assumption); (eq_refl); (eq_refl); (eq_refl); (intro _; eq_refl))
    repeat infer_instance
    refine ⟨fun _ => true, fun i => .int (-(putAt xs (letN i) 2)), fun i hi B' => ?_, ?_⟩
    · repeat infer_instance
      refine ⟨_, nth3 _ (show i < 3 from hi), ?_⟩
      repeat infer_instance
      all_goals rfl
    repeat infer_instance
    show Out.ok (.list (worthL xs r)) = _
    unfold worthL
    rw [h1, h2] <;> rfl
  repeat infer_instance
  ((with_reducible apply gf_lk); (eq_refl); (assumption); (eq_refl); (eq_refl); (eq_refl); (intro _; eq_refl))
  ((with_reducible apply gi_zip true true); (eq_refl); (eq_refl); (exact Gls.zip (by assumption)); (eq_refl); (eq_refl); (eq_refl))
  repeat infer_instance
  refine ⟨⟨trivial, trivial⟩, (show 3 ≤ sizeLine by decide), fun _ => true, fun i => .int (putAt xs (letN i) 0 - putAt xs (letN i) 2), fun i hi B' => ?_, ?_⟩
  · have hi : i < 3 := hi
    repeat infer_instance
    rw [show nth (firstsL xs) i = .int (putAt xs (letN i) 0) from nth3 _ hi, show nth (List.map (fun i => PyData.int (putAt xs (letN i) 2)) (List.filter (fun i => true) (List.range (strsD letters).length))) i = .int (putAt xs (letN i) 2) from nth3 _ hi]
    repeat infer_instance
    all_goals rfl
  repeat infer_instance
  show Out.ok (.list (worthL xs r)) = _
  unfold worthL
  rw [h1, h2] <;> rfl
end
end K75
namespace K75
open PySem PySem.Spec PyProof.Rows L2 Tc Px
local macro_rules | `(tactic| infer_instance) => `(tactic| first
  | (with_reducible refine gs_nil ?_)
  )
section
variable {P : Program} {w : World} {K : PySem.W.Frag} {mg : Str → Option Value} {base : Heap}
def oth (l : Str) : List Nat := (List.range 3).filter fun i => !PyData.eqv (.str (letN i)) (.str l)
theorem nth_mapS {L : List Nat} {g : Nat → Str} {i : Nat} (hi : i < L.length) : nth (L.map fun j => PyData.str (g j)) i = .str (g (L.getD i 0)) := by
  have e : (L.map fun j => PyData.str (g j))[i]? = some (.str (g (L.getD i 0))) := by
    rw [List.getElem?_map, List.getD_eq_getElem?_getD, List.getElem?_eq_getElem hi] <;> rfl
  exact nth_at e
def aheadB (xs : List PyData) (l : Str) : Bool := (List.range (oth l).length).all fun i => decide (putAhead xs l (letN ((oth l).getD i 0)) ≥ putAhead xs (letN ((oth l).getD i 0)) l)
def pre6l (ds : List PyData) : Prop := ∃ (xs : List PyData) (l : Str), ds = [.tuple xs, .str l] ∧ xs.length = 6 ∧ xs.all isI = true
def aheadD : List PyData → PyData
  | [.tuple xs, .str l] => .bool (aheadB xs l)
  | _ => .none
theorem sc_is_ahead : FnScope ["profile", "letter", "others", "other"] ["profile", "letter"] (defScope s_is_ahead) := ⟨rfl, rfl, rfl, by decide +kernel, rfl, by decide +kernel, by decide +kernel⟩
theorem ok_is_ahead {aL : Addr} (WL : Writ K mg "LETTERS" aL (strsD letters)) (F1 : Call P w K mg base (L2.CX P w) 1 "put_ahead" ["profile", "letter", "other"] (spF 3 preAh fun ds => .ok (putAhD ds)))
    {f : Addr} {fd : FuncData} (F : Fun K "_is_ahead" "_is_ahead" s_is_ahead f fd) (sm : ∃ o, K.lookup sysModules = some o) (B : Gls mg) :
    FnG P w K mg base (L2.CX P w) 2 f fd ["profile", "letter"] (spF 2 pre6l fun ds => .ok (aheadD ds)) := by
  refine fn_data F sc_is_ahead sm (by decide) _ _ fun cdv A outer s H E Bs ds hl hp c ex => ?_
  have nd := sc_is_ahead.nd
  obtain ⟨xs, l, rfl, hn, ha⟩ := hp
  refine gs_cons ?_
  ((with_reducible apply set_ld); (assumption); (assumption); (eq_refl); (eq_refl); (eq_refl); (eq_refl); (eq_refl); (eq_refl); (intro _; eq_refl))
  repeat infer_instance
  refine ⟨fun i => !PyData.eqv (.str (letN i)) (.str l), fun i => .str (letN i), fun i hi B' => ?_, ?_⟩
  · have hi : i < 3 := hi
    repeat infer_instance
    rw [let_at hi]
    repeat infer_instance
    generalize (!PyData.eqv (.str (letN i)) (.str l)) = t
    cases t <;> (repeat infer_instance)
    all_goals rfl
  repeat infer_instance
  ((with_reducible apply gf_lk); (eq_refl); (assumption); (eq_refl); (eq_refl); (eq_refl); (intro _; eq_refl))
  repeat infer_instance
  refine ⟨?_, fun i => true, fun i => .bool (decide (putAhead xs l (letN ((oth l).getD i 0)) ≥ putAhead xs (letN ((oth l).getD i 0)) l)), fun i hi B' => ?_, ?_⟩
  · rw [List.length_map]
    exact Nat.le_trans (List.length_filter_le _ _) (show 3 ≤ sizeLine by decide)
  · rw [List.length_map] at hi
    have hi : i < (oth l).length := hi
    have it : nth (List.map (fun i => PyData.str (letN i)) (List.filter (fun i => !PyData.eqv (.str (letN i)) (.str l)) (List.range (strsD letters).length))) i = .str (letN ((oth l).getD i 0)) := nth_mapS hi
    repeat infer_instance
    refine ⟨⟨xs, l, _, by rw [it] <;> rfl, hn, ha⟩, ?_⟩
    rw [it]
    show (Out.ok (.int (putAhead xs l (letN ((oth l).getD i 0))))).to _ _
    repeat infer_instance
    refine ⟨⟨xs, _, l, rfl, hn, ha⟩, ?_⟩
    show (Out.ok (.int (putAhead xs (letN ((oth l).getD i 0)) l))).to _ _
    repeat infer_instance
    all_goals rfl
  repeat infer_instance
  rw [List.length_map]
  refine all_rng ?_
  exact rfl
end
end K75
namespace K75
open PySem PySem.Spec PyProof.Rows L2 Tc Px
local macro_rules | `(tactic| infer_instance) => `(tactic| first
  | (with_reducible refine gs_nil ?_)
  )
section
variable {P : Program} {w : World} {K : PySem.W.Frag} {mg : Str → Option Value} {base : Heap}
def topB (ws : List PyData) (i : Nat) : Bool := (ws.map asI).all fun y => decide (y ≤ asI (nth ws i))
def winS (xs : List PyData) (r : Str) : List Str := if decide (r = "pairs") = true then ((List.range 3).filter fun i => aheadB xs (letN i)).map letN else ((List.range 3).filter fun i => topB (worthL xs r) i).map letN
def winD : List PyData → PyData
  | [.tuple xs, .str r] => .list (strL (winS xs r))
  | _ => .none
theorem worth_len (xs : List PyData) (r : Str) : (worthL xs r).length = 3 := by
  unfold worthL
  split
  · rfl
  · split <;> rfl
theorem worth_int (xs : List PyData) (r : Str) : (worthL xs r).all isI = true := by
  unfold worthL
  split
  · rfl
  · split <;> rfl
theorem isI_nth {ws : List PyData} (h : ws.all isI = true) {i : Nat} (hi : i < ws.length) : nth ws i = .int (asI (nth ws i)) ∧ nth ws i ∈ ws := by
  have e : ws[i]? = some ws[i] := List.getElem?_eq_getElem hi
  rw [nth_at e]
  have m : ws[i] ∈ ws := List.getElem_mem hi
  refine ⟨?_, m⟩
  have z := List.all_eq_true.mp h _ m
  cases q : ws[i] with
  | int j => rfl
  | _ => rw [q] at z; cases z
theorem max_lst {ds : List PyData} {k : PyData → Prop} (a : ds.all isI = true) (n : 0 < ds.length) (h : ∀ m, m ∈ ds.map asI → (∀ y ∈ ds.map asI, y ≤ m) → k (.int m)) : MaxD (.list ds) k := ⟨ds.map asI, .inl (congrArg PyData.list (ints_of a)), by rw [List.length_map]; exact n, h⟩
theorem top_eq {ws : List PyData} (a : ws.all isI = true) {i : Nat} (hi : i < ws.length) {m : Int} (hm : m ∈ ws.map asI) (mx : ∀ y ∈ ws.map asI, y ≤ m) : PyData.eqv (nth ws i) (.int m) = topB ws i := by
  obtain ⟨e, me⟩ := isI_nth a hi
  have mi : asI (nth ws i) ∈ ws.map asI := List.mem_map.mpr ⟨_, me, rfl⟩
  rw [e, eqv_int]
  unfold topB
  by_cases z : asI (nth ws i) = m
  · rw [decide_eq_true z, eq_comm, List.all_eq_true]
    intro y hy
    rw [z]
    exact decide_eq_true (mx y hy)
  · rw [decide_eq_false z, eq_comm, Bool.eq_false_iff]
    intro al
    have := of_decide_eq_true (List.all_eq_true.mp al m hm)
    have := mx _ mi
    omega
theorem sc_iwinners : FnScope ["profile", "rule", "worths", "letter", "worth"] ["profile", "rule"] (defScope s_iwinners) := ⟨rfl, rfl, rfl, by decide +kernel, rfl, by decide +kernel, by decide +kernel⟩
theorem ok_iwinners {aL : Addr} (WL : Writ K mg "LETTERS" aL (strsD letters)) (F1 : Call P w K mg base (L2.CX P w) 2 "_is_ahead" ["profile", "letter"] (spF 2 pre6l fun ds => .ok (aheadD ds))) (F2 : Call P w K mg base (L2.CX P w) 3 "_worths" ["profile", "rule"] (spF 2 pre6r fun ds => .ok (worthD ds)))
    {f : Addr} {fd : FuncData} (F : Fun K "_winners" "_winners" s_iwinners f fd) (sm : ∃ o, K.lookup sysModules = some o) (B : Gls mg) :
    FnG P w K mg base (L2.CX P w) 4 f fd ["profile", "rule"] (spF 2 pre6r fun ds => .ok (winD ds)) := by
  refine fn_data F sc_iwinners sm (by decide) _ _ fun cdv A outer s H E Bs ds hl hp c ex => ?_
  have nd := sc_iwinners.nd
  obtain ⟨xs, r, rfl, hn, ha⟩ := hp
  refine gs_cons ?_
  repeat infer_instance
  rw [eqv_str]
  generalize h1 : decide (r = "pairs") = t
  cases t
  case true =>
    repeat infer_instance
    ((with_reducible apply gf_lk); (eq_refl); (assumption); (eq_refl); (eq_refl); (eq_refl); (intro _; eq_refl))
    repeat infer_instance
    refine ⟨fun i => aheadB xs (letN i), fun i => .str (letN i), fun i hi B' => ?_, ?_⟩
    · have hi : i < 3 := hi
      repeat infer_instance
      refine ⟨⟨xs, letN i, by rw [let_at hi] <;> rfl, hn, ha⟩, ?_⟩
      rw [let_at hi]
      show (Out.ok (.bool (aheadB xs (letN i)))).to _ _
      repeat infer_instance
      generalize aheadB xs (letN i) = t
      cases t <;> (repeat infer_instance)
      all_goals rfl
    repeat infer_instance
    show Out.ok (.list (strL (winS xs r))) = _
    unfold winS strL
    rw [h1, if_pos rfl, List.map_map] <;> rfl
  repeat infer_instance
  refine ⟨⟨xs, r, rfl, hn, ha⟩, ?_⟩
  show (Out.ok (.list (worthL xs r))).to _ _
  repeat infer_instance
  ((with_reducible apply gf_lk); (eq_refl); (assumption); (eq_refl); (eq_refl); (eq_refl); (intro _; eq_refl))
  ((with_reducible apply gi_zip false true); (eq_refl); (eq_refl); (exact Gls.zip (by assumption)); (eq_refl); (eq_refl); (eq_refl))
  repeat infer_instance
  rw [show min (strsD letters).length (worthL xs r).length = 3 by rw [worth_len] <;> rfl]
  refine ⟨⟨trivial, trivial⟩, (show 3 ≤ sizeLine by decide), fun i => topB (worthL xs r) i, fun i => .str (letN i), fun i hi B' => ?_, ?_⟩
  · have h2 : i < (worthL xs r).length := by rw [worth_len] <;> exact hi
    repeat infer_instance
    refine max_lst (worth_int xs r) (by rw [worth_len] <;> decide) fun m hm mx => ?_
    refine eq_p (by rw [(isI_nth (worth_int xs r) h2).1] <;> rfl) ?_
    rw [top_eq (worth_int xs r) h2 hm mx]
    repeat infer_instance
    rw [let_at hi]
    generalize topB (worthL xs r) i = t
    cases t <;> (repeat infer_instance)
    all_goals rfl
  repeat infer_instance
  show Out.ok (.list (strL (winS xs r))) = _
  unfold winS strL
  rw [h1, if_neg (by decide), List.map_map] <;> rfl
end
end K75
namespace K75
open PySem PySem.Spec PyProof.Rows L2 Tc Px
local macro_rules | `(tactic| infer_instance) => `(tactic| first
  | (with_reducible refine gs_nil ?_)
  )
section
variable {P : Program} {w : World} {K : PySem.W.Frag} {mg : Str → Option Value} {base : Heap}
/-- a well -/
def Well (ps : List PyData) : Prop := ∃ a b c : Int, ps = [.int a, .int b, .int c] ∧ 0 ≤ a ∧ 0 ≤ b ∧ b < 2147483423
def preDraw (ps ds : List PyData) : Prop := Well ps ∧ ∃ top : Int, ds = [.int top] ∧ 0 < top ∧ top < 2 ^ 30
theorem divp_ok {i j : Int} (h : 0 < j) (h2 : j.natAbs < 2 ^ 600) : CDivP i j := ⟨h, PyProof.noPylong_of_log2 (wide_div h h2 (by decide) (by decide) : CDivW i j).2⟩
/-- a number below the given one, the well a draw further -/
def RDraw (ps ds : List PyData) (o : Out) (ps' : List PyData) : Prop := Well ps' ∧ ∃ t top : Int, ds = [.int top] ∧ o = .ok (.int t) ∧ 0 ≤ t ∧ t < top
theorem sc_ldraw : FnScope ["_law_well_here", "_law_top", "_law_old", "_law_figure"] ["_law_well_here", "_law_top"] (defScope s_ldraw) := ⟨rfl, rfl, rfl, by decide +kernel, rfl, by decide +kernel, by decide +kernel⟩
theorem ok_draw {f : Addr} {fd : FuncData} (F : Fun K "_law_draw" "_law_draw" s_ldraw f fd) (sm : ∃ o, K.lookup sysModules = some o) (B : Gls mg) :
    FnG P w K mg base (L2.CX P w) 1 f fd ["_law_well_here", "_law_top"] (spP 1 preDraw RDraw) := by
  refine fn_pail F sc_ldraw sm rfl _ _ fun cdv A outer s H E Bs ad ms ds hl hp c ex => ?_
  have nd := sc_ldraw.nd
  obtain ⟨⟨a, b, c0, rfl, ha, hb, hb2⟩, top, rfl, ht, ht2⟩ := hp
  refine gs_cons ?_
  repeat infer_instance
  generalize h1 : decide (0 < a) = t
  cases t
  case false =>
    repeat infer_instance
    exact ⟨⟨a, _, _, rfl, ha, Int.emod_nonneg _ (by decide), Int.emod_lt_of_pos _ (by decide)⟩, _, top, rfl, rfl, Int.emod_nonneg _ (by omega), Int.emod_lt_of_pos _ ht⟩
  repeat infer_instance
  refine ⟨divp_ok ht (by omega), ?_⟩
  repeat infer_instance
  exact ⟨⟨_, _, _, rfl, Int.ediv_nonneg ha (by omega), Int.emod_nonneg _ (by decide), Int.emod_lt_of_pos _ (by decide)⟩, _, top, rfl, rfl, Int.emod_nonneg _ (by omega), Int.emod_lt_of_pos _ ht⟩
end
end K75
namespace K75
open PySem PySem.Spec PyProof.Rows L2 Tc Px
local macro_rules | `(tactic| infer_instance) => `(tactic| first
  | (with_reducible refine gs_nil ?_)
  )
section
variable {P : Program} {w : World} {K : PySem.W.Frag} {mg : Str → Option Value} {base : Heap}
def preOf (ps ds : List PyData) : Prop := Well ps ∧ ∃ xs : List PyData, ds = [.list xs] ∧ 0 < xs.length ∧ xs.length < 2 ^ 30
def ROf (ps ds : List PyData) (o : Out) (ps' : List PyData) : Prop := Well ps' ∧ ∃ (xs : List PyData) (d : PyData), ds = [.list xs] ∧ d ∈ xs ∧ o = .ok d
theorem at_mem {xs : List PyData} {t : Int} (h0 : 0 ≤ t) (h1 : t < xs.length) {k : PyData → Prop} (h : ∀ d ∈ xs, k d) : IxD (.list xs) (.int t) k := by
  have l : t.toNat < xs.length := by omega
  refine ⟨xs[t.toNat], ?_, h _ (List.getElem_mem l)⟩
  unfold atD ixN
  first
    | (rw [if_pos ⟨h0, h1⟩] <;> exact List.getElem?_eq_getElem l)
    | (simp only [h0, h1, l, if_true, and_self, if_false, Option.bind_some] <;> simp [h0, h1, l])
theorem sc_lof : FnScope ["_law_well_here", "_law_menu"] ["_law_well_here", "_law_menu"] (defScope s_lof) := ⟨rfl, rfl, rfl, by decide +kernel, rfl, by decide +kernel, by decide +kernel⟩
theorem ok_of (F1 : Call P w K mg base (L2.CX P w) 1 "_law_draw" ["_law_well_here", "_law_top"] (spP 1 preDraw RDraw)) {f : Addr} {fd : FuncData} (F : Fun K "_law_of" "_law_of" s_lof f fd) (sm : ∃ o, K.lookup sysModules = some o) (B : Gls mg) :
    FnG P w K mg base (L2.CX P w) 2 f fd ["_law_well_here", "_law_menu"] (spP 1 preOf ROf) := by
  refine fn_pail F sc_lof sm rfl _ _ fun cdv A outer s H E Bs ad ms ds hl hp c ex => ?_
  have nd := sc_lof.nd
  obtain ⟨hw, xs, rfl, h0, h1⟩ := hp
  refine gs_cons ?_
  repeat infer_instance
  refine ⟨⟨hw, _, rfl, by omega, by omega⟩, fun o ms' hR => ?_⟩
  obtain ⟨hw2, t, top, e, rfl, t0, t1⟩ := hR
  cases e
  refine to_ok (at_mem t0 t1 fun d hd => ?_)
  repeat infer_instance
  exact ⟨hw2, xs, d, rfl, hd, rfl⟩
end
end K75
namespace K75
open PySem PySem.Spec PyProof.Rows L2 Tc Px
local macro_rules | `(tactic| infer_instance) => `(tactic| first
  | (with_reducible refine gs_nil ?_)
  )
section
variable {P : Program} {w : World} {K : PySem.W.Frag} {mg : Str → Option Value} {base : Heap}
/-- the sum of products -/
def dotL (ps ms : List PyData) : Int := ((List.range 6).map fun i => asI (nth ps i) * asI (nth ms i)).sum
def small (d : PyData) : Bool := match d with
  | .int i => decide (-(2 ^ 64) < i) && decide (i < 2 ^ 64)
  | _ => false
def preSum (ds : List PyData) : Prop := ∃ xs ms : List PyData, ds = [.tuple xs, .list ms] ∧ xs.length = 6 ∧ xs.all isI = true ∧ ms.length = 6 ∧ ms.all small = true
def sumD : List PyData → PyData
  | [.tuple xs, .list ms] => .int (dotL xs ms)
  | _ => .none
theorem small_nth {ms : List PyData} (h : ms.all small = true) {i : Nat} (hi : i < ms.length) : nth ms i = .int (asI (nth ms i)) ∧ -(2 ^ 64) < asI (nth ms i) ∧ asI (nth ms i) < 2 ^ 64 := by
  have e : ms[i]? = some ms[i] := List.getElem?_eq_getElem hi
  rw [nth_at e]
  have z := List.all_eq_true.mp h _ (List.getElem_mem hi)
  cases q : ms[i] with
  | int j =>
    rw [q] at z
    obtain ⟨a, b⟩ := (Bool.and_eq_true _ _).mp z
    exact ⟨rfl, of_decide_eq_true a, of_decide_eq_true b⟩
  | _ => rw [q] at z; cases z
theorem isI_at {ws : List PyData} (h : ws.all isI = true) {i : Nat} (hi : i < ws.length) : nth ws i = .int (asI (nth ws i)) := by
  have e : ws[i]? = some ws[i] := List.getElem?_eq_getElem hi
  rw [nth_at e]
  have z := List.all_eq_true.mp h _ (List.getElem_mem hi)
  cases q : ws[i] with
  | int j => rfl
  | _ => rw [q] at z; cases z
theorem sc_lsum : FnScope ["_law_profile_here", "_law_marks", "_law_many", "_law_mark"] ["_law_profile_here", "_law_marks"] (defScope s_lsum) := ⟨rfl, rfl, rfl, by decide +kernel, rfl, by decide +kernel, by decide +kernel⟩
theorem ok_sum {f : Addr} {fd : FuncData} (F : Fun K "_law_sum" "_law_sum" s_lsum f fd) (sm : ∃ o, K.lookup sysModules = some o) (B : Gls mg) :
    FnG P w K mg base (L2.CX P w) 1 f fd ["_law_profile_here", "_law_marks"] (spF 2 preSum fun ds => .ok (sumD ds)) := by
  refine fn_data F sc_lsum sm (by decide) _ _ fun cdv A outer s H E Bs ds hl hp c ex => ?_
  have nd := sc_lsum.nd
  obtain ⟨xs, ms, rfl, hn, ha, hm, hs⟩ := hp
  refine gs_cons ?_
  repeat infer_instance
  ((with_reducible apply gf_lk); (eq_refl); (assumption); (eq_refl); (eq_refl); (eq_refl); (intro _; eq_refl))
  ((with_reducible apply gi_zip false true); (eq_refl); (eq_refl); (exact Gls.zip (by assumption)); (eq_refl); (eq_refl); (eq_refl))
  repeat infer_instance
  rw [show min xs.length ms.length = 6 by omega]
  refine ⟨⟨trivial, trivial⟩, (show 6 ≤ sizeLine by decide), fun _ => true, fun i => .int (asI (nth xs i) * asI (nth ms i)), fun i hi B' => ?_, ?_⟩
  · obtain ⟨e2, lo, hi2⟩ := small_nth hs (i := i) (by omega)
    have e1 := isI_at ha (i := i) (by omega)
    repeat infer_instance
    rw [e1, e2]
    repeat infer_instance
  repeat infer_instance
  refine sum_lst rfl ?_
  repeat infer_instance
  all_goals rfl
end
end K75
namespace K75
open PySem PySem.Spec PyProof.Rows L2 Tc Px Py
/-! the law's own counting, by numbers -/
def posT : List (List Nat) := [[0, 1, 2], [0, 2, 1], [1, 0, 2], [2, 0, 1], [1, 2, 0], [2, 1, 0]]
def ixT (k i : Nat) : Nat := (posT.getD k []).getD i 9
theorem ixT_some {k i : Nat} (hk : k < 6) (hi : i < 3) : Txt.index0 (ordN k) (letN i) = some (ixT k i) ∧ ixT k i < 3 := by
  match k, hk, i, hi with
  | 0, _, 0, _ | 0, _, 1, _ | 0, _, 2, _ | 1, _, 0, _ | 1, _, 1, _ | 1, _, 2, _ | 2, _, 0, _ | 2, _, 1, _ | 2, _, 2, _ | 3, _, 0, _ | 3, _, 1, _ | 3, _, 2, _ | 4, _, 0, _ | 4, _, 1, _ | 4, _, 2, _ | 5, _, 0, _ | 5, _, 1, _ | 5, _, 2, _ => exact ⟨by decide +kernel, by decide +kernel⟩
theorem find_T {k i o : Nat} (hk : k < 6) (hi : i < 3) (ho : o < 3) : decide (Txt.find (ordN k) (letN i) < Txt.find (ordN k) (letN o)) = decide (ixT k i < ixT k o) := by
  match k, hk, i, hi, o, ho with
  | 0, _, 0, _, 0, _ | 0, _, 0, _, 1, _ | 0, _, 0, _, 2, _ | 0, _, 1, _, 0, _ | 0, _, 1, _, 1, _ | 0, _, 1, _, 2, _ | 0, _, 2, _, 0, _ | 0, _, 2, _, 1, _ | 0, _, 2, _, 2, _ | 1, _, 0, _, 0, _ | 1, _, 0, _, 1, _ | 1, _, 0, _, 2, _ | 1, _, 1, _, 0, _ | 1, _, 1, _, 1, _ | 1, _, 1, _, 2, _ | 1, _, 2, _, 0, _ | 1, _, 2, _, 1, _ | 1, _, 2, _, 2, _ | 2, _, 0, _, 0, _ | 2, _, 0, _, 1, _ | 2, _, 0, _, 2, _ | 2, _, 1, _, 0, _ | 2, _, 1, _, 1, _ | 2, _, 1, _, 2, _ | 2, _, 2, _, 0, _ | 2, _, 2, _, 1, _ | 2, _, 2, _, 2, _ | 3, _, 0, _, 0, _ | 3, _, 0, _, 1, _ | 3, _, 0, _, 2, _ | 3, _, 1, _, 0, _ | 3, _, 1, _, 1, _ | 3, _, 1, _, 2, _ | 3, _, 2, _, 0, _ | 3, _, 2, _, 1, _ | 3, _, 2, _, 2, _ | 4, _, 0, _, 0, _ | 4, _, 0, _, 1, _ | 4, _, 0, _, 2, _ | 4, _, 1, _, 0, _ | 4, _, 1, _, 1, _ | 4, _, 1, _, 2, _ | 4, _, 2, _, 0, _ | 4, _, 2, _, 1, _ | 4, _, 2, _, 2, _ | 5, _, 0, _, 0, _ | 5, _, 0, _, 1, _ | 5, _, 0, _, 2, _ | 5, _, 1, _, 0, _ | 5, _, 1, _, 1, _ | 5, _, 1, _, 2, _ | 5, _, 2, _, 0, _ | 5, _, 2, _, 1, _ | 5, _, 2, _, 2, _ => decide +kernel
theorem at_T {k i : Nat} (hk : k < 6) (hi : i < 3) : decide (at3 k 0 = letN i) = decide (ixT k i = 0) ∧ decide (at3 k 2 = letN i) = decide (ixT k i = 2) := by
  match k, hk, i, hi with
  | 0, _, 0, _ | 0, _, 1, _ | 0, _, 2, _ | 1, _, 0, _ | 1, _, 1, _ | 1, _, 2, _ | 2, _, 0, _ | 2, _, 1, _ | 2, _, 2, _ | 3, _, 0, _ | 3, _, 1, _ | 3, _, 2, _ | 4, _, 0, _ | 4, _, 1, _ | 4, _, 2, _ | 5, _, 0, _ | 5, _, 1, _ | 5, _, 2, _ => exact ⟨by decide +kernel, by decide +kernel⟩
theorem six_ints {xs : List PyData} (h : xs.length = 6) (a : xs.all isI = true) : ∃ x0 x1 x2 x3 x4 x5 : Int, xs = [.int x0, .int x1, .int x2, .int x3, .int x4, .int x5] := by
  match xs, h with
  | [a0, a1, a2, a3, a4, a5], _ =>
    have z := List.all_eq_true.mp a
    have one : ∀ d : PyData, isI d = true → ∃ i, d = .int i := fun d h => by
      cases d <;> first | exact ⟨_, rfl⟩ | cases h
    obtain ⟨x0, rfl⟩ := one a0 (z _ (by simp))
    obtain ⟨x1, rfl⟩ := one a1 (z _ (by simp))
    obtain ⟨x2, rfl⟩ := one a2 (z _ (by simp))
    obtain ⟨x3, rfl⟩ := one a3 (z _ (by simp))
    obtain ⟨x4, rfl⟩ := one a4 (z _ (by simp))
    obtain ⟨x5, rfl⟩ := one a5 (z _ (by simp))
    exact ⟨x0, x1, x2, x3, x4, x5, rfl⟩
/-- by pairs: 1 where the one stands ahead of the other one -/
def msA (i o : Nat) : List PyData := ((List.range 6).filter fun _ => true).map fun k => .int (if decide (ixT k i < ixT k o) = true then 1 else 0)
/-- by points -/
def msP (p : List PyData) (i : Nat) : List PyData := ((List.range 6).filter fun _ => true).map fun k => nth p (ixT k i)
theorem ahT {xs : List PyData} {i o : Nat} (hi : i < 3) (ho : o < 3) : putAhead xs (letN i) (letN o) = (((List.range 6).filter fun k => decide (ixT k i < ixT k o)).map fun k => asI (nth xs k)).sum := by
  unfold putAhead
  rw [List.filter_congr fun k hk => find_T (List.mem_range.mp hk) hi ho]
theorem atT {xs : List PyData} {i : Nat} (hi : i < 3) : putAt xs (letN i) 0 = (((List.range 6).filter fun k => decide (ixT k i = 0)).map fun k => asI (nth xs k)).sum ∧ putAt xs (letN i) 2 = (((List.range 6).filter fun k => decide (ixT k i = 2)).map fun k => asI (nth xs k)).sum := by
  unfold putAt
  rw [List.filter_congr fun k hk => (at_T (List.mem_range.mp hk) hi).1, List.filter_congr (p := fun k => decide (at3 k 2 = letN i)) fun k hk => (at_T (List.mem_range.mp hk) hi).2]
  exact ⟨rfl, rfl⟩
def o1 : Nat → Nat
  | 0 => 1
  | _ => 0
def o2 : Nat → Nat
  | 2 => 1
  | _ => 2
def sumL (xs : List PyData) : Int := (xs.map asI).sum
section
variable {x0 x1 x2 x3 x4 x5 : Int}
theorem oth_T {i : Nat} (hi : i < 3) : oth (letN i) = [o1 i, o2 i] := by
  match i, hi with
  | 0, _ | 1, _ | 2, _ => decide +kernel
theorem ahead_own {i : Nat} (hi : i < 3) : aheadB [.int x0, .int x1, .int x2, .int x3, .int x4, .int x5] (letN i) =
    (decide (2 * dotL [.int x0, .int x1, .int x2, .int x3, .int x4, .int x5] (msA i (o1 i)) ≥ sumL [.int x0, .int x1, .int x2, .int x3, .int x4, .int x5]) &&
     decide (2 * dotL [.int x0, .int x1, .int x2, .int x3, .int x4, .int x5] (msA i (o2 i)) ≥ sumL [.int x0, .int x1, .int x2, .int x3, .int x4, .int x5])) := by
  unfold aheadB
  rw [oth_T hi]
  show (decide (putAhead _ (letN i) (letN (o1 i)) ≥ putAhead _ (letN (o1 i)) (letN i)) && (decide (putAhead _ (letN i) (letN (o2 i)) ≥ putAhead _ (letN (o2 i)) (letN i)) && true)) = _
  have h1 : o1 i < 3 := by unfold o1; split <;> decide
  have h2 : o2 i < 3 := by unfold o2; split <;> decide
  rw [ahT hi h1, ahT h1 hi, ahT hi h2, ahT h2 hi, Bool.and_true]
  match i, hi with
  | 0, _ =>
    show (decide (x0 + (x1 + (x4 + 0)) ≥ x2 + (x3 + (x5 + 0))) && decide (x0 + (x1 + (x2 + 0)) ≥ x3 + (x4 + (x5 + 0)))) = (decide (2 * (x0 * 1 + (x1 * 1 + (x2 * 0 + (x3 * 0 + (x4 * 1 + (x5 * 0 + 0)))))) ≥ x0 + (x1 + (x2 + (x3 + (x4 + (x5 + 0)))))) && decide (2 * (x0 * 1 + (x1 * 1 + (x2 * 1 + (x3 * 0 + (x4 * 0 + (x5 * 0 + 0)))))) ≥ x0 + (x1 + (x2 + (x3 + (x4 + (x5 + 0)))))))
    congr 1 <;> exact decide_eq_decide.mpr (by omega)
  | 1, _ =>
    show (decide (x2 + (x3 + (x5 + 0)) ≥ x0 + (x1 + (x4 + 0))) && decide (x0 + (x2 + (x3 + 0)) ≥ x1 + (x4 + (x5 + 0)))) = (decide (2 * (x0 * 0 + (x1 * 0 + (x2 * 1 + (x3 * 1 + (x4 * 0 + (x5 * 1 + 0)))))) ≥ x0 + (x1 + (x2 + (x3 + (x4 + (x5 + 0)))))) && decide (2 * (x0 * 1 + (x1 * 0 + (x2 * 1 + (x3 * 1 + (x4 * 0 + (x5 * 0 + 0)))))) ≥ x0 + (x1 + (x2 + (x3 + (x4 + (x5 + 0)))))))
    congr 1 <;> exact decide_eq_decide.mpr (by omega)
  | 2, _ =>
    show (decide (x3 + (x4 + (x5 + 0)) ≥ x0 + (x1 + (x2 + 0))) && decide (x1 + (x4 + (x5 + 0)) ≥ x0 + (x2 + (x3 + 0)))) = (decide (2 * (x0 * 0 + (x1 * 0 + (x2 * 0 + (x3 * 1 + (x4 * 1 + (x5 * 1 + 0)))))) ≥ x0 + (x1 + (x2 + (x3 + (x4 + (x5 + 0)))))) && decide (2 * (x0 * 0 + (x1 * 1 + (x2 * 0 + (x3 * 0 + (x4 * 1 + (x5 * 1 + 0)))))) ≥ x0 + (x1 + (x2 + (x3 + (x4 + (x5 + 0)))))))
    congr 1 <;> exact decide_eq_decide.mpr (by omega)
/-- the marks by points -/
def marksL (xs p : List PyData) : List PyData := ((List.range 3).filter fun _ => true).map fun i => .int (dotL xs (msP p i))
def ptsOf (r : Str) : List PyData := if decide (r = "firsts") = true then [.int 1, .int 0, .int 0] else if decide (r = "lasts") = true then [.int 0, .int 0, .int (-1)] else [.int 2, .int 1, .int 0]
theorem top_own {r : Str} (hr : r = "firsts" ∨ r = "lasts" ∨ r = "points") {i : Nat} (hi : i < 3) : topB (marksL [.int x0, .int x1, .int x2, .int x3, .int x4, .int x5] (ptsOf r)) i = topB (worthL [.int x0, .int x1, .int x2, .int x3, .int x4, .int x5] r) i := by
  have w : ∀ (f g : Nat → Int), (∀ j k, j < 3 → k < 3 → (f j ≤ f k ↔ g j ≤ g k)) → topB (((List.range 3).filter fun _ => true).map fun i => PyData.int (f i)) i = topB (((List.range 3).filter fun _ => true).map fun i => PyData.int (g i)) i := fun f g h => by
    match i, hi with
    | 0, _ =>
      show (decide (f 0 ≤ f 0) && (decide (f 1 ≤ f 0) && (decide (f 2 ≤ f 0) && true))) = (decide (g 0 ≤ g 0) && (decide (g 1 ≤ g 0) && (decide (g 2 ≤ g 0) && true)))
      rw [decide_eq_decide.mpr (h 0 0 (by decide) (by decide)), decide_eq_decide.mpr (h 1 0 (by decide) (by decide)), decide_eq_decide.mpr (h 2 0 (by decide) (by decide))]
    | 1, _ =>
      show (decide (f 0 ≤ f 1) && (decide (f 1 ≤ f 1) && (decide (f 2 ≤ f 1) && true))) = (decide (g 0 ≤ g 1) && (decide (g 1 ≤ g 1) && (decide (g 2 ≤ g 1) && true)))
      rw [decide_eq_decide.mpr (h 0 1 (by decide) (by decide)), decide_eq_decide.mpr (h 1 1 (by decide) (by decide)), decide_eq_decide.mpr (h 2 1 (by decide) (by decide))]
    | 2, _ =>
      show (decide (f 0 ≤ f 2) && (decide (f 1 ≤ f 2) && (decide (f 2 ≤ f 2) && true))) = (decide (g 0 ≤ g 2) && (decide (g 1 ≤ g 2) && (decide (g 2 ≤ g 2) && true)))
      rw [decide_eq_decide.mpr (h 0 2 (by decide) (by decide)), decide_eq_decide.mpr (h 1 2 (by decide) (by decide)), decide_eq_decide.mpr (h 2 2 (by decide) (by decide))]
  have three : ∀ {P : Nat → Prop}, P 0 → P 1 → P 2 → ∀ j, j < 3 → P j := fun a b c j hj => by
    match j, hj with
    | 0, _ => exact a
    | 1, _ => exact b
    | 2, _ => exact c
  rcases hr with rfl | rfl | rfl
  · refine w (fun i => dotL [.int x0, .int x1, .int x2, .int x3, .int x4, .int x5] (msP [.int 1, .int 0, .int 0] i)) (fun i => putAt [.int x0, .int x1, .int x2, .int x3, .int x4, .int x5] (letN i) 0) fun j k hj hk => ?_
    have e : ∀ i, i < 3 → dotL [.int x0, .int x1, .int x2, .int x3, .int x4, .int x5] (msP [.int 1, .int 0, .int 0] i) = putAt [.int x0, .int x1, .int x2, .int x3, .int x4, .int x5] (letN i) 0 := by
      refine three ?_ ?_ ?_
      · rw [(atT (by decide)).1]
        show x0 * 1 + (x1 * 1 + (x2 * 0 + (x3 * 0 + (x4 * 0 + (x5 * 0 + 0))))) = x0 + (x1 + 0)
        omega
      · rw [(atT (by decide)).1]
        show x0 * 0 + (x1 * 0 + (x2 * 1 + (x3 * 1 + (x4 * 0 + (x5 * 0 + 0))))) = x2 + (x3 + 0)
        omega
      · rw [(atT (by decide)).1]
        show x0 * 0 + (x1 * 0 + (x2 * 0 + (x3 * 0 + (x4 * 1 + (x5 * 1 + 0))))) = x4 + (x5 + 0)
        omega
    have a := e j hj
    have b := e k hk
    omega
  · refine w (fun i => dotL [.int x0, .int x1, .int x2, .int x3, .int x4, .int x5] (msP [.int 0, .int 0, .int (-1)] i)) (fun i => -(putAt [.int x0, .int x1, .int x2, .int x3, .int x4, .int x5] (letN i) 2)) fun j k hj hk => ?_
    have e : ∀ i, i < 3 → dotL [.int x0, .int x1, .int x2, .int x3, .int x4, .int x5] (msP [.int 0, .int 0, .int (-1)] i) = -(putAt [.int x0, .int x1, .int x2, .int x3, .int x4, .int x5] (letN i) 2) := by
      refine three ?_ ?_ ?_
      · rw [(atT (by decide)).2]
        show x0 * 0 + (x1 * 0 + (x2 * 0 + (x3 * (-1) + (x4 * 0 + (x5 * (-1) + 0))))) = -(x3 + (x5 + 0))
        omega
      · rw [(atT (by decide)).2]
        show x0 * 0 + (x1 * (-1) + (x2 * 0 + (x3 * 0 + (x4 * (-1) + (x5 * 0 + 0))))) = -(x1 + (x4 + 0))
        omega
      · rw [(atT (by decide)).2]
        show x0 * (-1) + (x1 * 0 + (x2 * (-1) + (x3 * 0 + (x4 * 0 + (x5 * 0 + 0))))) = -(x0 + (x2 + 0))
        omega
    have a := e j hj
    have b := e k hk
    omega
  · refine w (fun i => dotL [.int x0, .int x1, .int x2, .int x3, .int x4, .int x5] (msP [.int 2, .int 1, .int 0] i)) (fun i => putAt [.int x0, .int x1, .int x2, .int x3, .int x4, .int x5] (letN i) 0 - putAt [.int x0, .int x1, .int x2, .int x3, .int x4, .int x5] (letN i) 2) fun j k hj hk => ?_
    have e : ∀ i, i < 3 → dotL [.int x0, .int x1, .int x2, .int x3, .int x4, .int x5] (msP [.int 2, .int 1, .int 0] i) = putAt [.int x0, .int x1, .int x2, .int x3, .int x4, .int x5] (letN i) 0 - putAt [.int x0, .int x1, .int x2, .int x3, .int x4, .int x5] (letN i) 2 + (x0 + x1 + x2 + x3 + x4 + x5) := by
      refine three ?_ ?_ ?_
      · rw [(atT (by decide)).1, (atT (by decide)).2]
        show x0 * 2 + (x1 * 2 + (x2 * 1 + (x3 * 0 + (x4 * 1 + (x5 * 0 + 0))))) = x0 + (x1 + 0) - (x3 + (x5 + 0)) + (x0 + x1 + x2 + x3 + x4 + x5)
        omega
      · rw [(atT (by decide)).1, (atT (by decide)).2]
        show x0 * 1 + (x1 * 0 + (x2 * 2 + (x3 * 2 + (x4 * 0 + (x5 * 1 + 0))))) = x2 + (x3 + 0) - (x1 + (x4 + 0)) + (x0 + x1 + x2 + x3 + x4 + x5)
        omega
      · rw [(atT (by decide)).1, (atT (by decide)).2]
        show x0 * 0 + (x1 * 1 + (x2 * 0 + (x3 * 1 + (x4 * 2 + (x5 * 2 + 0))))) = x4 + (x5 + 0) - (x0 + (x2 + 0)) + (x0 + x1 + x2 + x3 + x4 + x5)
        omega
    have a := e j hj
    have b := e k hk
    omega
end
end K75
namespace K75
open PySem PySem.Spec PyProof.Rows L2 Tc Px Py
theorem nm_ne {k i : Nat} (hk : k < 3) (hi : i < 3) : (!PyData.eqv (.str (letN k)) (.str (letN i))) = decide (k ≠ i) := by
  rw [eqv_str]
  match k, hk, i, hi with
  | 0, _, 0, _ | 0, _, 1, _ | 0, _, 2, _ | 1, _, 0, _ | 1, _, 1, _ | 1, _, 2, _ | 2, _, 0, _ | 2, _, 1, _ | 2, _, 2, _ => decide +kernel
def fndL (xs : List PyData) (n : Nat) : List PyData := ((List.range n).filter fun j => aheadB xs (letN j)).map fun j => .str (letN j)
theorem fnd_succ (xs : List PyData) (n : Nat) : fndL xs (n + 1) = if aheadB xs (letN n) = true then fndL xs n ++ [.str (letN n)] else fndL xs n := by
  unfold fndL
  rw [List.range_succ, List.filter_append, List.map_append]
  by_cases h : aheadB xs (letN n) = true
  · rw [if_pos h]
    simp [List.filter, h]
  · rw [if_neg h]
    simp [List.filter, h]
end K75
namespace K75
open PySem PySem.Spec PyProof.Rows L2 Tc Px
open Py
local macro_rules | `(tactic| infer_instance) => `(tactic| first
  | ((with_reducible show GI _ _ _ (Expr.Call (Expr.Name "zip" _) _ _ _) _ _); (with_reducible apply gi_zip false true); (eq_refl); (eq_refl); (exact Gls.zip (by assumption)); (eq_refl); (eq_refl); (eq_refl))
  | ((with_reducible show GI _ _ _ (Expr.Name "_law_order" _) _ _); (with_reducible refine gi_str ?_))
  | ((with_reducible show G1 _ _ (Stmt.Assign [Expr.Tuple [Expr.Name _ _, Expr.Name "_law_found" _] _ _] (Expr.Tuple _ _ _) _) _ _); (with_reducible apply par_no); (with_reducible assumption); (assumption); (eq_refl); (eq_refl); (eq_refl); (eq_refl); (eq_refl); (eq_refl); (eq_refl); (eq_refl); (eq_refl); (eq_refl))
  | ((with_reducible show GE _ _ (Expr.Call (Expr.Attribute (Expr.Name "_law_orders" _) "index" _) [_] _ _) _ _); (with_reducible apply ge_lindex); rotate_left; (eq_refl); (eq_refl); (eq_refl); (exact star_cons rfl))
  | ((with_reducible show GE _ _ (Expr.Subscript (Expr.Dict _ _ _) _ _) _ _); (refine ge_dsub0 (D1 := .list [.int 1, .int 0, .int 0]) (D2 := .list [.int 0, .int 0, .int (-1)]) (D3 := .list [.int 2, .int 1, .int 0]) (Bod.toCxt (by with_reducible assumption)) (fun _ _ => rfl) (by decide) (by decide) (by decide) (fun B1 => by ((repeat infer_instance); (all_goals exact rfl))) fun B1 => ?_))
  | ((with_reducible show GE _ _ (Expr.BinOp (Expr.List _ _) Operator.Mult _ _) _ _); (with_reducible refine ge_ofF ?_); (with_reducible refine gf_rep ?_))
  | ((with_reducible show G1 _ _ (Stmt.Assign [Expr.Tuple [Expr.Name _ _, Expr.Name _ _] _ _] (Expr.Tuple _ _ _) _) _ _); (with_reducible apply par_n); (with_reducible assumption); (assumption); (eq_refl); (eq_refl); (eq_refl); (eq_refl); (eq_refl); (eq_refl); (eq_refl); (eq_refl))
  | ((with_reducible show G1 _ _ (Stmt.For _ _ _ _ _) _ _); (with_reducible apply g1_for); (with_reducible assumption); rotate_left; (intro _; eq_refl))
  | ((with_reducible show GE _ _ (Expr.Call (Expr.Attribute (Expr.Constant _ _ _) "index" _) [_] _ _) _ _); (with_reducible apply ge_sindex); (eq_refl); rotate_left; (eq_refl); (eq_refl); (eq_refl); (exact star_cons rfl))
  | ((with_reducible show GF _ _ (Expr.BinOp (Expr.List _ _) Operator.Mult _ _) _ _); (with_reducible refine gf_rep ?_))
  | ((with_reducible show GF _ _ (Expr.IfExp _ _ _ _) _ _); (with_reducible refine gf_if ?_))
  | ((with_reducible show ∀ B0 : Bas, Same _ _ → _); intro _ _ _)
  | ((with_reducible show ∃ k0 : Int, _ = PyData.int k0 ∧ (0 ≤ k0 ∧ k0 ≤ 1000) ∧ _); refine ⟨_, rfl, ⟨by first | decide | omega, by first | decide | omega⟩, Nat.le_of_ble_eq_true rfl, ?_⟩)
  | ((with_reducible show ∀ a0 : Addr, Alone _ a0 → _); intro _ _)
  )
section
variable {P : Program} {w : World} {K : PySem.W.Frag} {mg : Str → Option Value} {base : Heap}
/-- names exchanged all through -/
def exN : Nat → Str
  | 0 => "acb"
  | 1 => "bac"
  | 2 => "bca"
  | 3 => "cab"
  | _ => "cba"
/-- where an order goes -/
def goT (e i : Nat) : Nat := (([[1, 0, 4, 5, 2, 3], [2, 3, 0, 1, 5, 4], [3, 2, 5, 4, 0, 1], [4, 5, 1, 0, 3, 2], [5, 4, 3, 2, 1, 0]] : List (List Nat)).getD e []).getD i 9
def ledF (e : Nat) (xs : List PyData) : Nat → List PyData
  | 0 => List.replicate 6 (.int 0)
  | i + 1 => (ledF e xs i).set (goT e i) (nth xs i)
def preLed (ds : List PyData) : Prop := ∃ (xs : List PyData) (e : Nat), ds = [.tuple xs, .str (exN e)] ∧ xs.length = 6 ∧ xs.all isI = true ∧ e < 5
def ledD : List PyData → PyData
  | [.tuple xs, .str z] => .tuple (ledF (match z.cps.toList with
    | [97, 99, 98] => 0
    | [98, 97, 99] => 1
    | [98, 99, 97] => 2
    | [99, 97, 98] => 3
    | _ => 4) xs 6)
  | _ => .none
theorem led_eq {xs : List PyData} {e : Nat} (he : e < 5) : ledD [.tuple xs, .str (exN e)] = .tuple (ledF e xs 6) := by
  match e, he with
  | 0, _ | 1, _ | 2, _ | 3, _ | 4, _ => rfl
theorem led_len (e : Nat) (xs : List PyData) : ∀ i, (ledF e xs i).length = 6
  | 0 => rfl
  | i + 1 => by
    show ((ledF e xs i).set _ _).length = 6
    rw [List.length_set, led_len e xs i]
/-- the sign of an order, exchanged -/
def ahP (i j : Nat) : Nat := (("abc" : Str).cps.toList.idxOf (sgn (ordN i) j).cps.toList[0]!)
theorem ah_some {i j : Nat} (hi : i < 6) (hj : j < 3) : Txt.index0 "abc" (sgn (ordN i) j) = some (ahP i j) ∧ ahP i j < 3 := by
  match i, hi, j, hj with
  | 0, _, 0, _ | 0, _, 1, _ | 0, _, 2, _ | 1, _, 0, _ | 1, _, 1, _ | 1, _, 2, _ | 2, _, 0, _ | 2, _, 1, _ | 2, _, 2, _ | 3, _, 0, _ | 3, _, 1, _ | 3, _, 2, _ | 4, _, 0, _ | 4, _, 1, _ | 4, _, 2, _ | 5, _, 0, _ | 5, _, 1, _ | 5, _, 2, _ => exact ⟨by decide +kernel, by decide +kernel⟩
theorem ord_size {i : Nat} (hi : i < 6) : (ordN i).cps.size = 3 := by
  match i, hi with
  | 0, _ | 1, _ | 2, _ | 3, _ | 4, _ | 5, _ => rfl
theorem ex_size {e : Nat} (he : e < 5) : (exN e).cps.size = 3 := by
  match e, he with
  | 0, _ | 1, _ | 2, _ | 3, _ | 4, _ => rfl
def freshL (e i : Nat) : List Str := ((List.range 3).filter fun _ => true).map fun j => sgn (exN e) (ahP i j)
theorem fresh_is {e i : Nat} (he : e < 5) (hi : i < 6) : Txt.join "" (freshL e i) = ordN (goT e i) ∧ ((freshL e i).map (·.length)).sum + (freshL e i).length * ("" : Str).length ≤ 16777216 ∧ goT e i < 6 := by
  match e, he, i, hi with
  | 0, _, 0, _ | 0, _, 1, _ | 0, _, 2, _ | 0, _, 3, _ | 0, _, 4, _ | 0, _, 5, _ | 1, _, 0, _ | 1, _, 1, _ | 1, _, 2, _ | 1, _, 3, _ | 1, _, 4, _ | 1, _, 5, _ | 2, _, 0, _ | 2, _, 1, _ | 2, _, 2, _ | 2, _, 3, _ | 2, _, 4, _ | 2, _, 5, _ | 3, _, 0, _ | 3, _, 1, _ | 3, _, 2, _ | 3, _, 3, _ | 3, _, 4, _ | 3, _, 5, _ | 4, _, 0, _ | 4, _, 1, _ | 4, _, 2, _ | 4, _, 3, _ | 4, _, 4, _ | 4, _, 5, _ => exact ⟨by decide +kernel, by decide +kernel, by decide +kernel⟩
def orders6 : List Str := ["abc", "acb", "bac", "bca", "cab", "cba"]
theorem ords_at {q : Nat} (hq : q < 6) : orders6[q]? = some (ordN q) ∧ ∀ m z, m < q → orders6[m]? = some z → z ≠ ordN q := by
  match q, hq with
  | 0, _ => exact ⟨by decide +kernel, fun m z hm => absurd hm (Nat.not_lt_zero _)⟩
  | 1, _ => exact ⟨by decide +kernel, fun m z hm hz => by
    match m, hm with
    | 0, _ => cases hz; decide +kernel⟩
  | 2, _ => exact ⟨by decide +kernel, fun m z hm hz => by
    match m, hm with
    | 0, _ | 1, _ => cases hz; decide +kernel⟩
  | 3, _ => exact ⟨by decide +kernel, fun m z hm hz => by
    match m, hm with
    | 0, _ | 1, _ | 2, _ => cases hz; decide +kernel⟩
  | 4, _ => exact ⟨by decide +kernel, fun m z hm hz => by
    match m, hm with
    | 0, _ | 1, _ | 2, _ | 3, _ => cases hz; decide +kernel⟩
  | 5, _ => exact ⟨by decide +kernel, fun m z hm hz => by
    match m, hm with
    | 0, _ | 1, _ | 2, _ | 3, _ | 4, _ => cases hz; decide +kernel⟩
theorem sc_lled : FnScope ["_law_profile_here", "_law_names_now", "_law_orders", "_law_found", "_law_many", "_law_order", "_law_fresh", "_law_sign"] ["_law_profile_here", "_law_names_now"] (defScope s_lled) := ⟨rfl, rfl, rfl, by decide +kernel, rfl, by decide +kernel, by decide +kernel⟩
theorem ok_led {f : Addr} {fd : FuncData} (F : Fun K "_law_led" "_law_led" s_lled f fd) (sm : ∃ o, K.lookup sysModules = some o) (B : Gls mg) :
    FnG P w K mg base (L2.CX P w) 1 f fd ["_law_profile_here", "_law_names_now"] (spF 2 preLed fun ds => .ok (ledD ds)) := by
  refine fn_data F sc_lled sm (by decide) _ _ fun cdv A outer s H E Bs ds hl hp c ex => ?_
  have nd := sc_lled.nd
  obtain ⟨xs, e, rfl, hn, ha, he⟩ := hp
  rw [led_eq he] at ex ⊢
  refine gs_cons ?_
  repeat infer_instance
  rw [show min xs.length _ = 6 by rw [hn] <;> rfl]
  refine ⟨fun i Γ => ∃ (a : Addr) (s4 s5 s6 s7 : Sl), Γ = [.d (.tuple xs), .d (.str (exN e)), .d (.list [.str "abc", .str "acb", .str "bac", .str "bca", .str "cab", .str "cba"]), .own a (ledF e xs i), s4, s5, s6, s7], ⟨_, _, _, _, _, rfl⟩, fun _ _ _ _ => ⟨trivial, trivial⟩, ?_, ?_⟩
  · rintro i Γ hi ⟨a, s4, s5, s6, s7, rfl⟩
    have od : nth [.str "abc", .str "acb", .str "bac", .str "bca", .str "cab", .str "cba"] i = .str (ordN i) := by
      match i, hi with
      | 0, _ | 1, _ | 2, _ | 3, _ | 4, _ | 5, _ => rfl
    have hi : i < 6 := hi
    show GG _ _ _ (.tuple [nth xs i, nth [.str "abc", .str "acb", .str "bac", .str "bca", .str "cab", .str "cba"] i]) _ _
    rw [od]
    repeat infer_instance
    ((with_reducible apply gf_lk); (eq_refl); (assumption); (eq_refl); (eq_refl); (eq_refl); (intro _; eq_refl))
    repeat infer_instance
    rw [ord_size hi]
    refine ⟨(show 3 ≤ sizeLine by decide), fun _ => true, fun j => .str (sgn (exN e) (ahP i j)), fun j hj B' => ?_, ?_⟩
    · repeat infer_instance
      refine ⟨_, _, rfl, (ah_some hi hj).1, ?_⟩
      repeat infer_instance
      refine ix_s (show (exN e).cps.size ≤ sizeLine by rw [ex_size he]; decide) (by rw [ex_size he]; exact (ah_some hi hj).2) ?_
      repeat infer_instance
      all_goals exact ⟨rfl, rfl⟩
    have fr := fresh_is he hi
    refine ⟨freshL e i, .inl (by unfold freshL; rw [List.map_map] <;> rfl), fr.2.1, ?_⟩
    rw [fr.1]
    repeat infer_instance
    refine ⟨orders6, rfl, ?_⟩
    repeat infer_instance
    refine ⟨_, goT e i, rfl, (ords_at fr.2.2).1, (ords_at fr.2.2).2, ?_⟩
    repeat infer_instance
    refine ⟨ledF e xs i, goT e i, rfl, _, rfl, ixN_k (i := ((goT e i : Nat) : Int)) (Int.natCast_nonneg _) (by rw [led_len]; exact Int.ofNat_lt.mpr fr.2.2), ?_⟩
    repeat infer_instance
    repeat (with_reducible refine gs_nil ?_)
    exact ⟨_, _, _, _, _, rfl⟩
  rintro Γ ⟨a, s4, s5, s6, s7, rfl⟩
  refine gs_cons ?_
  repeat infer_instance
  all_goals rfl
end
end K75
namespace K75
open PySem PySem.Spec PyProof.Rows L2 Tc Px
open Py
/-! exchanged names win where the names won -/
section
variable {x0 x1 x2 x3 x4 x5 : Int}
theorem at_0 : putAt [.int x0, .int x1, .int x2, .int x3, .int x4, .int x5] (letN 0) 0 = x0 + x1 ∧ putAt [.int x0, .int x1, .int x2, .int x3, .int x4, .int x5] (letN 0) 2 = x3 + x5 := by
  rw [(atT (by decide)).1, (atT (by decide)).2]
  show x0 + (x1 + (0)) = _ ∧ x3 + (x5 + (0)) = _
  exact ⟨by omega, by omega⟩
theorem at_1 : putAt [.int x0, .int x1, .int x2, .int x3, .int x4, .int x5] (letN 1) 0 = x2 + x3 ∧ putAt [.int x0, .int x1, .int x2, .int x3, .int x4, .int x5] (letN 1) 2 = x1 + x4 := by
  rw [(atT (by decide)).1, (atT (by decide)).2]
  show x2 + (x3 + (0)) = _ ∧ x1 + (x4 + (0)) = _
  exact ⟨by omega, by omega⟩
theorem at_2 : putAt [.int x0, .int x1, .int x2, .int x3, .int x4, .int x5] (letN 2) 0 = x4 + x5 ∧ putAt [.int x0, .int x1, .int x2, .int x3, .int x4, .int x5] (letN 2) 2 = x0 + x2 := by
  rw [(atT (by decide)).1, (atT (by decide)).2]
  show x4 + (x5 + (0)) = _ ∧ x0 + (x2 + (0)) = _
  exact ⟨by omega, by omega⟩
theorem ah_0 : aheadB [.int x0, .int x1, .int x2, .int x3, .int x4, .int x5] (letN 0) = (decide (x0 + x1 + x4 ≥ x2 + x3 + x5) && decide (x0 + x1 + x2 ≥ x3 + x4 + x5)) := by
  unfold aheadB
  rw [oth_T (by decide)]
  show (decide (putAhead _ (letN 0) (letN 1) ≥ putAhead _ (letN 1) (letN 0)) && (decide (putAhead _ (letN 0) (letN 2) ≥ putAhead _ (letN 2) (letN 0)) && true)) = _
  rw [ahT (by decide) (by decide), ahT (by decide) (by decide), ahT (by decide) (by decide), ahT (by decide) (by decide), Bool.and_true]
  show (decide (x0 + (x1 + (x4 + (0))) ≥ x2 + (x3 + (x5 + (0)))) && decide (x0 + (x1 + (x2 + (0))) ≥ x3 + (x4 + (x5 + (0))))) = _
  congr 1 <;> exact decide_eq_decide.mpr (by omega)
theorem ah_1 : aheadB [.int x0, .int x1, .int x2, .int x3, .int x4, .int x5] (letN 1) = (decide (x2 + x3 + x5 ≥ x0 + x1 + x4) && decide (x0 + x2 + x3 ≥ x1 + x4 + x5)) := by
  unfold aheadB
  rw [oth_T (by decide)]
  show (decide (putAhead _ (letN 1) (letN 0) ≥ putAhead _ (letN 0) (letN 1)) && (decide (putAhead _ (letN 1) (letN 2) ≥ putAhead _ (letN 2) (letN 1)) && true)) = _
  rw [ahT (by decide) (by decide), ahT (by decide) (by decide), ahT (by decide) (by decide), ahT (by decide) (by decide), Bool.and_true]
  show (decide (x2 + (x3 + (x5 + (0))) ≥ x0 + (x1 + (x4 + (0)))) && decide (x0 + (x2 + (x3 + (0))) ≥ x1 + (x4 + (x5 + (0))))) = _
  congr 1 <;> exact decide_eq_decide.mpr (by omega)
theorem ah_2 : aheadB [.int x0, .int x1, .int x2, .int x3, .int x4, .int x5] (letN 2) = (decide (x3 + x4 + x5 ≥ x0 + x1 + x2) && decide (x1 + x4 + x5 ≥ x0 + x2 + x3)) := by
  unfold aheadB
  rw [oth_T (by decide)]
  show (decide (putAhead _ (letN 2) (letN 0) ≥ putAhead _ (letN 0) (letN 2)) && (decide (putAhead _ (letN 2) (letN 1) ≥ putAhead _ (letN 1) (letN 2)) && true)) = _
  rw [ahT (by decide) (by decide), ahT (by decide) (by decide), ahT (by decide) (by decide), ahT (by decide) (by decide), Bool.and_true]
  show (decide (x3 + (x4 + (x5 + (0))) ≥ x0 + (x1 + (x2 + (0)))) && decide (x1 + (x4 + (x5 + (0))) ≥ x0 + (x2 + (x3 + (0))))) = _
  congr 1 <;> exact decide_eq_decide.mpr (by omega)
theorem led_0 : ledF 0 [.int x0, .int x1, .int x2, .int x3, .int x4, .int x5] 6 = [.int x1, .int x0, .int x4, .int x5, .int x2, .int x3] := rfl
theorem led_1 : ledF 1 [.int x0, .int x1, .int x2, .int x3, .int x4, .int x5] 6 = [.int x2, .int x3, .int x0, .int x1, .int x5, .int x4] := rfl
theorem led_2 : ledF 2 [.int x0, .int x1, .int x2, .int x3, .int x4, .int x5] 6 = [.int x4, .int x5, .int x1, .int x0, .int x3, .int x2] := rfl
theorem led_3 : ledF 3 [.int x0, .int x1, .int x2, .int x3, .int x4, .int x5] 6 = [.int x3, .int x2, .int x5, .int x4, .int x0, .int x1] := rfl
theorem led_4 : ledF 4 [.int x0, .int x1, .int x2, .int x3, .int x4, .int x5] 6 = [.int x5, .int x4, .int x3, .int x2, .int x1, .int x0] := rfl
end
/-- marks of three -/
def mk3 (f : Nat → Int) : List PyData := ((List.range 3).filter fun _ => true).map fun i => PyData.int (f i)
theorem top_0 (f : Nat → Int) : topB (mk3 f) 0 = (decide (f 0 ≤ f 0) && (decide (f 1 ≤ f 0) && decide (f 2 ≤ f 0))) := by
  show (decide (f 0 ≤ f 0) && (decide (f 1 ≤ f 0) && (decide (f 2 ≤ f 0) && true))) = _
  rw [Bool.and_true]
theorem top_1 (f : Nat → Int) : topB (mk3 f) 1 = (decide (f 0 ≤ f 1) && (decide (f 1 ≤ f 1) && decide (f 2 ≤ f 1))) := by
  show (decide (f 0 ≤ f 1) && (decide (f 1 ≤ f 1) && (decide (f 2 ≤ f 1) && true))) = _
  rw [Bool.and_true]
theorem top_2 (f : Nat → Int) : topB (mk3 f) 2 = (decide (f 0 ≤ f 2) && (decide (f 1 ≤ f 2) && decide (f 2 ≤ f 2))) := by
  show (decide (f 0 ≤ f 2) && (decide (f 1 ≤ f 2) && (decide (f 2 ≤ f 2) && true))) = _
  rw [Bool.and_true]
/-- the sign that takes the place of another one -/
def exT (e j : Nat) : Nat := (([[0, 2, 1], [1, 0, 2], [1, 2, 0], [2, 0, 1], [2, 1, 0]] : List (List Nat)).getD e []).getD j 9
def fW (r : Str) (xs : List PyData) : Nat → Int := if decide (r = "firsts") = true then (fun i => putAt xs (letN i) 0) else if decide (r = "lasts") = true then (fun i => -(putAt xs (letN i) 2)) else fun i => putAt xs (letN i) 0 - putAt xs (letN i) 2
theorem worth_fW (xs : List PyData) (r : Str) : worthL xs r = mk3 (fW r xs) := by
  unfold worthL fW
  split
  · rfl
  · split <;> rfl
def qW (r : Str) (xs : List PyData) (i : Nat) : Bool := if decide (r = "pairs") = true then aheadB xs (letN i) else topB (worthL xs r) i
theorem winS_q (xs : List PyData) (r : Str) : winS xs r = ((List.range 3).filter (qW r xs)).map letN := by
  unfold winS qW
  split
  · rfl
  · rfl
theorem fW_led (r : Str) {x0 x1 x2 x3 x4 x5 : Int} {e : Nat} (he : e < 5) : fW r (ledF e [.int x0, .int x1, .int x2, .int x3, .int x4, .int x5] 6) (exT e 0) = fW r [.int x0, .int x1, .int x2, .int x3, .int x4, .int x5] 0 ∧ fW r (ledF e [.int x0, .int x1, .int x2, .int x3, .int x4, .int x5] 6) (exT e 1) = fW r [.int x0, .int x1, .int x2, .int x3, .int x4, .int x5] 1 ∧ fW r (ledF e [.int x0, .int x1, .int x2, .int x3, .int x4, .int x5] 6) (exT e 2) = fW r [.int x0, .int x1, .int x2, .int x3, .int x4, .int x5] 2 := by
  match e, he with
  | 0, _ =>
    rw [led_0, show exT 0 0 = 0 from rfl, show exT 0 1 = 2 from rfl, show exT 0 2 = 1 from rfl]
    unfold fW
    split
    · show putAt _ (letN 0) 0 = putAt _ (letN 0) 0 ∧ putAt _ (letN 2) 0 = putAt _ (letN 1) 0 ∧ putAt _ (letN 1) 0 = putAt _ (letN 2) 0
      rw [at_0.1, at_1.1, at_2.1, at_0.1, at_1.1, at_2.1]
      exact ⟨by omega, by omega, by omega⟩
    · split
      · show -putAt _ (letN 0) 2 = -putAt _ (letN 0) 2 ∧ -putAt _ (letN 2) 2 = -putAt _ (letN 1) 2 ∧ -putAt _ (letN 1) 2 = -putAt _ (letN 2) 2
        rw [at_0.2, at_1.2, at_2.2, at_0.2, at_1.2, at_2.2]
        exact ⟨by omega, by omega, by omega⟩
      · show putAt _ (letN 0) 0 - putAt _ (letN 0) 2 = putAt _ (letN 0) 0 - putAt _ (letN 0) 2 ∧ putAt _ (letN 2) 0 - putAt _ (letN 2) 2 = putAt _ (letN 1) 0 - putAt _ (letN 1) 2 ∧ putAt _ (letN 1) 0 - putAt _ (letN 1) 2 = putAt _ (letN 2) 0 - putAt _ (letN 2) 2
        rw [at_0.1, at_1.1, at_2.1, at_0.2, at_1.2, at_2.2, at_0.1, at_1.1, at_2.1, at_0.2, at_1.2, at_2.2]
        exact ⟨by omega, by omega, by omega⟩
  | 1, _ =>
    rw [led_1, show exT 1 0 = 1 from rfl, show exT 1 1 = 0 from rfl, show exT 1 2 = 2 from rfl]
    unfold fW
    split
    · show putAt _ (letN 1) 0 = putAt _ (letN 0) 0 ∧ putAt _ (letN 0) 0 = putAt _ (letN 1) 0 ∧ putAt _ (letN 2) 0 = putAt _ (letN 2) 0
      rw [at_0.1, at_1.1, at_2.1, at_0.1, at_1.1, at_2.1]
      exact ⟨by omega, by omega, by omega⟩
    · split
      · show -putAt _ (letN 1) 2 = -putAt _ (letN 0) 2 ∧ -putAt _ (letN 0) 2 = -putAt _ (letN 1) 2 ∧ -putAt _ (letN 2) 2 = -putAt _ (letN 2) 2
        rw [at_0.2, at_1.2, at_2.2, at_0.2, at_1.2, at_2.2]
        exact ⟨by omega, by omega, by omega⟩
      · show putAt _ (letN 1) 0 - putAt _ (letN 1) 2 = putAt _ (letN 0) 0 - putAt _ (letN 0) 2 ∧ putAt _ (letN 0) 0 - putAt _ (letN 0) 2 = putAt _ (letN 1) 0 - putAt _ (letN 1) 2 ∧ putAt _ (letN 2) 0 - putAt _ (letN 2) 2 = putAt _ (letN 2) 0 - putAt _ (letN 2) 2
        rw [at_0.1, at_1.1, at_2.1, at_0.2, at_1.2, at_2.2, at_0.1, at_1.1, at_2.1, at_0.2, at_1.2, at_2.2]
        exact ⟨by omega, by omega, by omega⟩
  | 2, _ =>
    rw [led_2, show exT 2 0 = 1 from rfl, show exT 2 1 = 2 from rfl, show exT 2 2 = 0 from rfl]
    unfold fW
    split
    · show putAt _ (letN 1) 0 = putAt _ (letN 0) 0 ∧ putAt _ (letN 2) 0 = putAt _ (letN 1) 0 ∧ putAt _ (letN 0) 0 = putAt _ (letN 2) 0
      rw [at_0.1, at_1.1, at_2.1, at_0.1, at_1.1, at_2.1]
      exact ⟨by omega, by omega, by omega⟩
    · split
      · show -putAt _ (letN 1) 2 = -putAt _ (letN 0) 2 ∧ -putAt _ (letN 2) 2 = -putAt _ (letN 1) 2 ∧ -putAt _ (letN 0) 2 = -putAt _ (letN 2) 2
        rw [at_0.2, at_1.2, at_2.2, at_0.2, at_1.2, at_2.2]
        exact ⟨by omega, by omega, by omega⟩
      · show putAt _ (letN 1) 0 - putAt _ (letN 1) 2 = putAt _ (letN 0) 0 - putAt _ (letN 0) 2 ∧ putAt _ (letN 2) 0 - putAt _ (letN 2) 2 = putAt _ (letN 1) 0 - putAt _ (letN 1) 2 ∧ putAt _ (letN 0) 0 - putAt _ (letN 0) 2 = putAt _ (letN 2) 0 - putAt _ (letN 2) 2
        rw [at_0.1, at_1.1, at_2.1, at_0.2, at_1.2, at_2.2, at_0.1, at_1.1, at_2.1, at_0.2, at_1.2, at_2.2]
        exact ⟨by omega, by omega, by omega⟩
  | 3, _ =>
    rw [led_3, show exT 3 0 = 2 from rfl, show exT 3 1 = 0 from rfl, show exT 3 2 = 1 from rfl]
    unfold fW
    split
    · show putAt _ (letN 2) 0 = putAt _ (letN 0) 0 ∧ putAt _ (letN 0) 0 = putAt _ (letN 1) 0 ∧ putAt _ (letN 1) 0 = putAt _ (letN 2) 0
      rw [at_0.1, at_1.1, at_2.1, at_0.1, at_1.1, at_2.1]
      exact ⟨by omega, by omega, by omega⟩
    · split
      · show -putAt _ (letN 2) 2 = -putAt _ (letN 0) 2 ∧ -putAt _ (letN 0) 2 = -putAt _ (letN 1) 2 ∧ -putAt _ (letN 1) 2 = -putAt _ (letN 2) 2
        rw [at_0.2, at_1.2, at_2.2, at_0.2, at_1.2, at_2.2]
        exact ⟨by omega, by omega, by omega⟩
      · show putAt _ (letN 2) 0 - putAt _ (letN 2) 2 = putAt _ (letN 0) 0 - putAt _ (letN 0) 2 ∧ putAt _ (letN 0) 0 - putAt _ (letN 0) 2 = putAt _ (letN 1) 0 - putAt _ (letN 1) 2 ∧ putAt _ (letN 1) 0 - putAt _ (letN 1) 2 = putAt _ (letN 2) 0 - putAt _ (letN 2) 2
        rw [at_0.1, at_1.1, at_2.1, at_0.2, at_1.2, at_2.2, at_0.1, at_1.1, at_2.1, at_0.2, at_1.2, at_2.2]
        exact ⟨by omega, by omega, by omega⟩
  | 4, _ =>
    rw [led_4, show exT 4 0 = 2 from rfl, show exT 4 1 = 1 from rfl, show exT 4 2 = 0 from rfl]
    unfold fW
    split
    · show putAt _ (letN 2) 0 = putAt _ (letN 0) 0 ∧ putAt _ (letN 1) 0 = putAt _ (letN 1) 0 ∧ putAt _ (letN 0) 0 = putAt _ (letN 2) 0
      rw [at_0.1, at_1.1, at_2.1, at_0.1, at_1.1, at_2.1]
      exact ⟨by omega, by omega, by omega⟩
    · split
      · show -putAt _ (letN 2) 2 = -putAt _ (letN 0) 2 ∧ -putAt _ (letN 1) 2 = -putAt _ (letN 1) 2 ∧ -putAt _ (letN 0) 2 = -putAt _ (letN 2) 2
        rw [at_0.2, at_1.2, at_2.2, at_0.2, at_1.2, at_2.2]
        exact ⟨by omega, by omega, by omega⟩
      · show putAt _ (letN 2) 0 - putAt _ (letN 2) 2 = putAt _ (letN 0) 0 - putAt _ (letN 0) 2 ∧ putAt _ (letN 1) 0 - putAt _ (letN 1) 2 = putAt _ (letN 1) 0 - putAt _ (letN 1) 2 ∧ putAt _ (letN 0) 0 - putAt _ (letN 0) 2 = putAt _ (letN 2) 0 - putAt _ (letN 2) 2
        rw [at_0.1, at_1.1, at_2.1, at_0.2, at_1.2, at_2.2, at_0.1, at_1.1, at_2.1, at_0.2, at_1.2, at_2.2]
        exact ⟨by omega, by omega, by omega⟩
theorem qW_led (r : Str) {x0 x1 x2 x3 x4 x5 : Int} {e : Nat} (he : e < 5) : qW r (ledF e [.int x0, .int x1, .int x2, .int x3, .int x4, .int x5] 6) (exT e 0) = qW r [.int x0, .int x1, .int x2, .int x3, .int x4, .int x5] 0 ∧ qW r (ledF e [.int x0, .int x1, .int x2, .int x3, .int x4, .int x5] 6) (exT e 1) = qW r [.int x0, .int x1, .int x2, .int x3, .int x4, .int x5] 1 ∧ qW r (ledF e [.int x0, .int x1, .int x2, .int x3, .int x4, .int x5] 6) (exT e 2) = qW r [.int x0, .int x1, .int x2, .int x3, .int x4, .int x5] 2 := by
  have fw := fW_led r (x0 := x0) (x1 := x1) (x2 := x2) (x3 := x3) (x4 := x4) (x5 := x5) he
  unfold qW
  split
  · match e, he with
    | 0, _ =>
      rw [led_0, show exT 0 0 = 0 from rfl, show exT 0 1 = 2 from rfl, show exT 0 2 = 1 from rfl, ah_0, ah_1, ah_2, ah_0, ah_1, ah_2]
      refine ⟨?_, ?_, ?_⟩ <;> (rw [Bool.eq_iff_iff]; simp only [Bool.and_eq_true, decide_eq_true_eq]; omega)
    | 1, _ =>
      rw [led_1, show exT 1 0 = 1 from rfl, show exT 1 1 = 0 from rfl, show exT 1 2 = 2 from rfl, ah_0, ah_1, ah_2, ah_0, ah_1, ah_2]
      refine ⟨?_, ?_, ?_⟩ <;> (rw [Bool.eq_iff_iff]; simp only [Bool.and_eq_true, decide_eq_true_eq]; omega)
    | 2, _ =>
      rw [led_2, show exT 2 0 = 1 from rfl, show exT 2 1 = 2 from rfl, show exT 2 2 = 0 from rfl, ah_0, ah_1, ah_2, ah_0, ah_1, ah_2]
      refine ⟨?_, ?_, ?_⟩ <;> (rw [Bool.eq_iff_iff]; simp only [Bool.and_eq_true, decide_eq_true_eq]; omega)
    | 3, _ =>
      rw [led_3, show exT 3 0 = 2 from rfl, show exT 3 1 = 0 from rfl, show exT 3 2 = 1 from rfl, ah_0, ah_1, ah_2, ah_0, ah_1, ah_2]
      refine ⟨?_, ?_, ?_⟩ <;> (rw [Bool.eq_iff_iff]; simp only [Bool.and_eq_true, decide_eq_true_eq]; omega)
    | 4, _ =>
      rw [led_4, show exT 4 0 = 2 from rfl, show exT 4 1 = 1 from rfl, show exT 4 2 = 0 from rfl, ah_0, ah_1, ah_2, ah_0, ah_1, ah_2]
      refine ⟨?_, ?_, ?_⟩ <;> (rw [Bool.eq_iff_iff]; simp only [Bool.and_eq_true, decide_eq_true_eq]; omega)
  · rw [worth_fW, worth_fW]
    generalize fW r (ledF e [.int x0, .int x1, .int x2, .int x3, .int x4, .int x5] 6) = g at fw ⊢
    generalize fW r [.int x0, .int x1, .int x2, .int x3, .int x4, .int x5] = f at fw ⊢
    match e, he with
    | 0, _ =>
      rw [show exT 0 0 = 0 from rfl, show exT 0 1 = 2 from rfl, show exT 0 2 = 1 from rfl] at fw ⊢
      obtain ⟨f0, f1, f2⟩ := fw
      rw [top_0, top_1, top_2, top_0, top_1, top_2]
      refine ⟨?_, ?_, ?_⟩ <;> (rw [Bool.eq_iff_iff]; simp only [Bool.and_eq_true, decide_eq_true_eq]; omega)
    | 1, _ =>
      rw [show exT 1 0 = 1 from rfl, show exT 1 1 = 0 from rfl, show exT 1 2 = 2 from rfl] at fw ⊢
      obtain ⟨f0, f1, f2⟩ := fw
      rw [top_0, top_1, top_2, top_0, top_1, top_2]
      refine ⟨?_, ?_, ?_⟩ <;> (rw [Bool.eq_iff_iff]; simp only [Bool.and_eq_true, decide_eq_true_eq]; omega)
    | 2, _ =>
      rw [show exT 2 0 = 1 from rfl, show exT 2 1 = 2 from rfl, show exT 2 2 = 0 from rfl] at fw ⊢
      obtain ⟨f0, f1, f2⟩ := fw
      rw [top_0, top_1, top_2, top_0, top_1, top_2]
      refine ⟨?_, ?_, ?_⟩ <;> (rw [Bool.eq_iff_iff]; simp only [Bool.and_eq_true, decide_eq_true_eq]; omega)
    | 3, _ =>
      rw [show exT 3 0 = 2 from rfl, show exT 3 1 = 0 from rfl, show exT 3 2 = 1 from rfl] at fw ⊢
      obtain ⟨f0, f1, f2⟩ := fw
      rw [top_0, top_1, top_2, top_0, top_1, top_2]
      refine ⟨?_, ?_, ?_⟩ <;> (rw [Bool.eq_iff_iff]; simp only [Bool.and_eq_true, decide_eq_true_eq]; omega)
    | 4, _ =>
      rw [show exT 4 0 = 2 from rfl, show exT 4 1 = 1 from rfl, show exT 4 2 = 0 from rfl] at fw ⊢
      obtain ⟨f0, f1, f2⟩ := fw
      rw [top_0, top_1, top_2, top_0, top_1, top_2]
      refine ⟨?_, ?_, ?_⟩ <;> (rw [Bool.eq_iff_iff]; simp only [Bool.and_eq_true, decide_eq_true_eq]; omega)
end K75
namespace K75
open PySem PySem.Spec PyProof.Rows L2 Tc Px
open Py
/-! the letters that win, sorted -/
def abc (z : Str) : Prop := z = "a" ∨ z = "b" ∨ z = "c"
def leS (a b : Str) : Prop := ltCps b.cps.toList a.cps.toList = false
theorem le_trans3 {a b c : Str} (ha : abc a) (hb : abc b) (hc : abc c) : leS a b → leS b c → leS a c := by
  unfold leS
  rcases ha with rfl | rfl | rfl <;> rcases hb with rfl | rfl | rfl <;> rcases hc with rfl | rfl | rfl <;> decide +kernel
theorem le_anti3 {a b : Str} (ha : abc a) (hb : abc b) : leS a b → leS b a → a = b := by
  unfold leS
  rcases ha with rfl | rfl | rfl <;> rcases hb with rfl | rfl | rfl <;> decide +kernel
theorem pair_of : ∀ ys : List Str, (∀ z ∈ ys, abc z) → sortedS ys = true → ys.Pairwise leS
  | [], _, _ => .nil
  | [_], _, _ => .cons (fun _ h => by cases h) .nil
  | x :: y :: t, h, s => by
    have s : (!ltCps y.cps.toList x.cps.toList && risingS y t) = true := s
    obtain ⟨s1, s2⟩ := (Bool.and_eq_true _ _).mp s
    have p := pair_of (y :: t) (fun z hz => h z (.tail _ hz)) s2
    have xy : leS x y := by
      unfold leS
      cases q : ltCps y.cps.toList x.cps.toList with
      | false => rfl
      | true => rw [q] at s1; cases s1
    refine .cons (fun z hz => ?_) p
    rcases List.mem_cons.mp hz with rfl | hz
    · exact xy
    · exact le_trans3 (h x (.head _)) (h y (.tail _ (.head _))) (h z (.tail _ (.tail _ hz))) xy (List.rel_of_pairwise_cons p hz)
theorem sort_uniq {ys W : List Str} (hW : ∀ z ∈ W, abc z) (p : ys.Perm W) (s : sortedS ys = true) (sW : sortedS W = true) : ys = W :=
  have hy : ∀ z ∈ ys, abc z := fun z hz => hW z (p.mem_iff.mp hz)
  p.eq_of_pairwise (le := leS) (fun a b ha hb => le_anti3 (hy a ha) (hW b hb)) (pair_of ys hy s) (pair_of W hW sW)
def pick (q : Nat → Bool) : List Nat := (List.range 3).filter q
theorem pick_is (q : Nat → Bool) : pick q = (if q 0 = true then [0] else []) ++ ((if q 1 = true then [1] else []) ++ (if q 2 = true then [2] else [])) := by
  show ([0, 1, 2] : List Nat).filter q = _
  cases h0 : q 0 <;> cases h1 : q 1 <;> cases h2 : q 2 <;> simp only [List.filter, h0, h1, h2] <;> rfl
def pick3 (a b c : Bool) : List Nat := (if a = true then [0] else []) ++ ((if b = true then [1] else []) ++ (if c = true then [2] else []))
theorem abc_let {i : Nat} (hi : i < 3) : abc (letN i) := by
  match i, hi with
  | 0, _ => exact .inl rfl
  | 1, _ => exact .inr (.inl rfl)
  | 2, _ => exact .inr (.inr rfl)
theorem sorted3 (a b c : Bool) : sortedS ((pick3 a b c).map letN) = true := by
  cases a <;> cases b <;> cases c <;> decide +kernel
/-- what is due, walked -/
def dueT (L : List Nat) : Str := Txt.join "" (L.map letN)
theorem due3 (a b c : Bool) : (dueT (pick3 a b c)).cps.size = (pick3 a b c).length ∧ ∀ i, i < 3 → i < (pick3 a b c).length → Txt.index0 "abc" (sgn (dueT (pick3 a b c)) i) = some ((pick3 a b c).getD i 9) ∧ (pick3 a b c).getD i 9 < 3 := by
  cases a <;> cases b <;> cases c
  all_goals
    refine ⟨by decide +kernel, fun i hi => ?_⟩
    match i, hi with
    | 0, _ | 1, _ | 2, _ => decide +kernel
theorem pick3_len (a b c : Bool) : (pick3 a b c).length ≤ 3 := by
  cases a <;> cases b <;> cases c <;> decide
/-- the exchanged signs of what is due -/
def exL (e : Nat) (L : List Nat) : List Str := ((List.range L.length).filter fun _ => true).map fun i => sgn (exN e) (L.getD i 9)
theorem ex_perm {e : Nat} (he : e < 5) (a b c : Bool) : ∀ a' b' c' : Bool, ([a', b', c'].getD (exT e 0) true = a) → ([a', b', c'].getD (exT e 1) true = b) → ([a', b', c'].getD (exT e 2) true = c) → ((pick3 a' b' c').map letN).Perm (exL e (pick3 a b c)) := by
  match e, he with
  | 0, _ | 1, _ | 2, _ | 3, _ | 4, _ => cases a <;> cases b <;> cases c <;> decide +kernel
theorem ex_short (e : Nat) (a b c : Bool) : (exL e (pick3 a b c)).length < 64 := by
  unfold exL
  rw [List.length_map]
  exact Nat.lt_of_le_of_lt (List.length_filter_le _ _) (by rw [List.length_range]; have := pick3_len a b c; omega)
theorem win_pick (xs : List PyData) (r : Str) : winS xs r = (pick3 (qW r xs 0) (qW r xs 1) (qW r xs 2)).map letN := by
  rw [winS_q]
  exact congrArg (List.map letN) (pick_is (qW r xs))
theorem won_sorted (r : Str) {x0 x1 x2 x3 x4 x5 : Int} {e : Nat} (he : e < 5) {ys : List Str} (p : ys.Perm (exL e (pick3 (qW r [.int x0, .int x1, .int x2, .int x3, .int x4, .int x5] 0) (qW r [.int x0, .int x1, .int x2, .int x3, .int x4, .int x5] 1) (qW r [.int x0, .int x1, .int x2, .int x3, .int x4, .int x5] 2)))) (s : sortedS ys = true) :
    ys = winS (ledF e [.int x0, .int x1, .int x2, .int x3, .int x4, .int x5] 6) r := by
  rw [win_pick]
  have q := qW_led r (x0 := x0) (x1 := x1) (x2 := x2) (x3 := x3) (x4 := x4) (x5 := x5) he
  generalize qW r [.int x0, .int x1, .int x2, .int x3, .int x4, .int x5] = f at p q
  generalize qW r (ledF e [.int x0, .int x1, .int x2, .int x3, .int x4, .int x5] 6) = g at q ⊢
  have pm : ((pick3 (g 0) (g 1) (g 2)).map letN).Perm (exL e (pick3 (f 0) (f 1) (f 2))) := by
    have z : ∀ j, j < 3 → [g 0, g 1, g 2].getD j true = g j := fun j hj => by
      match j, hj with
      | 0, _ | 1, _ | 2, _ => rfl
    have t : ∀ j, j < 3 → exT e j < 3 := fun j hj => by
      match e, he, j, hj with
      | 0, _, 0, _ | 0, _, 1, _ | 0, _, 2, _ | 1, _, 0, _ | 1, _, 1, _ | 1, _, 2, _ | 2, _, 0, _ | 2, _, 1, _ | 2, _, 2, _ | 3, _, 0, _ | 3, _, 1, _ | 3, _, 2, _ | 4, _, 0, _ | 4, _, 1, _ | 4, _, 2, _ => decide
    exact ex_perm he _ _ _ _ _ _ ((z _ (t 0 (by decide))).trans q.1) ((z _ (t 1 (by decide))).trans q.2.1) ((z _ (t 2 (by decide))).trans q.2.2)
  refine sort_uniq (fun w hw => ?_) (p.trans pm.symm) s (sorted3 _ _ _)
  obtain ⟨i, hi, rfl⟩ := List.mem_map.mp hw
  refine abc_let ?_
  revert hi
  cases g 0 <;> cases g 1 <;> cases g 2 <;> simp [pick3] <;> omega
end K75
namespace K75
open PySem PySem.Spec PyProof.Rows L2 Tc Px
open Py
local macro_rules | `(tactic| infer_instance) => `(tactic| first
  | ((with_reducible show GE _ _ (Expr.Subscript (Expr.Dict _ _ _) _ _) _ _); (refine ge_dsub0 (D1 := .list [.int 1, .int 0, .int 0]) (D2 := .list [.int 0, .int 0, .int (-1)]) (D3 := .list [.int 2, .int 1, .int 0]) (Bod.toCxt (by with_reducible assumption)) (fun _ _ => rfl) (by decide) (by decide) (by decide) (fun B1 => by ((repeat infer_instance); (all_goals exact rfl))) fun B1 => ?_))
  | ((with_reducible show GE _ _ (Expr.BinOp (Expr.List _ _) Operator.Mult _ _) _ _); (with_reducible refine ge_ofF ?_); (with_reducible refine gf_rep ?_))
  | ((with_reducible show G1 _ _ (Stmt.Assign [Expr.Tuple [Expr.Name _ _, Expr.Name _ _] _ _] (Expr.Tuple _ _ _) _) _ _); (with_reducible apply par_n); (with_reducible assumption); (assumption); (eq_refl); (eq_refl); (eq_refl); (eq_refl); (eq_refl); (eq_refl); (eq_refl); (eq_refl))
  | ((with_reducible show G1 _ _ (Stmt.For _ _ _ _ _) _ _); (with_reducible apply g1_for); (with_reducible assumption); rotate_left; (intro _; eq_refl))
  | ((with_reducible show GE _ _ (Expr.Call (Expr.Attribute (Expr.Name _ _) "index" _) [_] _ _) _ _); (with_reducible apply ge_sindex); (eq_refl); rotate_left; (eq_refl); (eq_refl); (eq_refl); (exact star_cons rfl))
  | ((with_reducible show GE _ _ (Expr.Call (Expr.Attribute (Expr.Constant _ _ _) "index" _) [_] _ _) _ _); (with_reducible apply ge_sindex); (eq_refl); rotate_left; (eq_refl); (eq_refl); (eq_refl); (exact star_cons rfl))
  | ((with_reducible show G1 _ _ (Stmt.Expr (Expr.Call (Expr.Attribute (Expr.Name _ _) "append" _) [_] _ _) _) _ _); (with_reducible apply g1_append); (eq_refl); (eq_refl); (eq_refl); rotate_left; (decide); (decide); (eq_refl); (eq_refl); (eq_refl); (exact star_cons rfl); (eq_refl))
  | ((with_reducible show ∃ ds0 : List PyData, _[_]? = some (Sl.own _ ds0) ∧ ds0.length < sizeLine ∧ _); refine ⟨_, rfl, Nat.lt_of_le_of_lt (Nat.le_of_ble_eq_true (m := 1000) rfl) (by decide), ?_⟩)
  | ((with_reducible show G1 _ _ (Stmt.Assign [Expr.Name "_law_found" _] (Expr.List [] _) _) _ _); (with_reducible apply set_l); (with_reducible assumption); (eq_refl); (eq_refl); rotate_left; (eq_refl))
  | ((with_reducible show G1 _ _ (Stmt.Assign [Expr.Name "_law_leads" _] (Expr.List [] _) _) _ _); (with_reducible apply set_l); (with_reducible assumption); (eq_refl); (eq_refl); rotate_left; (eq_refl))
  | ((with_reducible show GF _ _ (Expr.BinOp (Expr.List _ _) Operator.Mult _ _) _ _); (with_reducible refine gf_rep ?_))
  | ((with_reducible show GF _ _ (Expr.IfExp _ _ _ _) _ _); (with_reducible refine gf_if ?_))
  | ((with_reducible show ∀ B0 : Bas, Same _ _ → _); intro _ _ _)
  | ((with_reducible show ∃ k0 : Int, _ = PyData.int k0 ∧ (0 ≤ k0 ∧ k0 ≤ 1000) ∧ _); refine ⟨_, rfl, ⟨by first | decide | omega, by first | decide | omega⟩, Nat.le_of_ble_eq_true rfl, ?_⟩)
  | ((with_reducible show ∀ a0 : Addr, Alone _ a0 → _); intro _ _)
  )
section
variable {P : Program} {w : World} {K : PySem.W.Frag} {mg : Str → Option Value} {base : Heap}
def preWon (ds : List PyData) : Prop := ∃ (xs : List PyData) (r : Str), ds = [.tuple xs, .str r] ∧ xs.length = 6 ∧ xs.all isI = true ∧ r ∈ rules
def wonD : List PyData → PyData
  | [.tuple xs, .str r] => .str (Txt.join "" (winS xs r))
  | _ => .none
theorem sc_lwon : FnScope ["_law_profile_here", "_law_rule", "_law_orders", "_law_names_now", "_law_found", "_law_name", "_law_leads", "_law_other", "_law_each", "_law_ahead", "_law_order", "_law_points", "_law_marks", "_law_mark"] ["_law_profile_here", "_law_rule"] (defScope s_lwon) := ⟨rfl, rfl, rfl, by decide +kernel, rfl, by decide +kernel, by decide +kernel⟩
theorem pts_or {r : Str} {φ : PyData → Prop} (hr : r = "firsts" ∨ r = "lasts" ∨ r = "points") (h : φ (.list (ptsOf r))) : Sel3 "firsts" "lasts" "points" (.list [.int 1, .int 0, .int 0]) (.list [.int 0, .int 0, .int (-1)]) (.list [.int 2, .int 1, .int 0]) (.str r) φ := by
  rcases hr with rfl | rfl | rfl
  · exact .inl ⟨rfl, h⟩
  · exact .inr (.inl ⟨rfl, h⟩)
  · exact .inr (.inr ⟨rfl, h⟩)
theorem pts_len (r : Str) : (ptsOf r).length = 3 := by
  unfold ptsOf
  split
  · rfl
  · split <;> rfl
theorem msP_small {r : Str} {i : Nat} (hr : r = "firsts" ∨ r = "lasts" ∨ r = "points") (hi : i < 3) : (msP (ptsOf r) i).all small = true := by
  rcases hr with rfl | rfl | rfl
  all_goals match i, hi with
    | 0, _ | 1, _ | 2, _ => decide +kernel
theorem fndS (xs : List PyData) : PyData.list (fndL xs 3) = .list ((((List.range 3).filter fun j => aheadB xs (letN j)).map letN).map .str) := by
  unfold fndL
  rw [List.map_map] <;> rfl
theorem win_short0 (q : Nat → Bool) : (((((List.range 3).filter q).map letN).map (·.length)).sum + (((List.range 3).filter q).map letN).length * ("" : Str).length) ≤ 16777216 := by
  show ((((([0, 1, 2] : List Nat).filter q).map letN).map (·.length)).sum + ((([0, 1, 2] : List Nat).filter q).map letN).length * _) ≤ _
  cases h0 : q 0 <;> cases h1 : q 1 <;> cases h2 : q 2 <;> simp only [List.filter, h0, h1, h2] <;> decide
theorem fnd_len (xs : List PyData) (n : Nat) : (fndL xs n).length ≤ n := by
  unfold fndL
  rw [List.length_map]
  exact Nat.le_trans (List.length_filter_le _ _) (by rw [List.length_range] <;> exact Nat.le_refl _)
theorem ok_won (F1 : Call P w K mg base (L2.CX P w) 1 "_law_sum" ["_law_profile_here", "_law_marks"] (spF 2 preSum fun ds => .ok (sumD ds))) {f : Addr} {fd : FuncData} (F : Fun K "_law_won" "_law_won" s_lwon f fd) (sm : ∃ o, K.lookup sysModules = some o) (B : Gls mg) :
    FnG P w K mg base (L2.CX P w) 2 f fd ["_law_profile_here", "_law_rule"] (spF 2 preWon fun ds => .ok (wonD ds)) := by
  refine fn_data F sc_lwon sm (by decide) _ _ fun cdv A outer s H E Bs ds hl hp c ex => ?_
  have nd := sc_lwon.nd
  obtain ⟨xs, r, rfl, hn, ha, hr⟩ := hp
  obtain ⟨x0, x1, x2, x3, x4, x5, rfl⟩ := six_ints hn ha
  have nm : ∀ k, k < 3 → nth [.str "a", .str "b", .str "c"] k = .str (letN k) := fun k hk => by
    match k, hk with
    | 0, _ | 1, _ | 2, _ => rfl
  have od : ∀ k, k < 6 → nth [.str "abc", .str "acb", .str "bac", .str "bca", .str "cab", .str "cba"] k = .str (ordN k) := fun k hk => by
    match k, hk with
    | 0, _ | 1, _ | 2, _ | 3, _ | 4, _ | 5, _ => rfl
  refine gs_cons ?_
  repeat infer_instance
  rw [eqv_str]
  generalize h1 : decide (r = "pairs") = t
  cases t
  case true =>
    repeat infer_instance
    refine ⟨fun i Γ => ∃ (a : Addr) (s5 s6 s7 s8 s9 s10 s11 s12 s13 : Sl), Γ = [.d (.tuple [.int x0, .int x1, .int x2, .int x3, .int x4, .int x5]), .d (.str r), .d (.list [.str "abc", .str "acb", .str "bac", .str "bca", .str "cab", .str "cba"]), .d (.list [.str "a", .str "b", .str "c"]), .own a (fndL [.int x0, .int x1, .int x2, .int x3, .int x4, .int x5] i), s5, s6, s7, s8, s9, s10, s11, s12, s13], ⟨_, _, _, _, _, _, _, _, _, _, rfl⟩, fun _ _ _ _ => trivial, ?_, ?_⟩
    · rintro i Γ hi ⟨a, s5, s6, s7, s8, s9, s10, s11, s12, s13, rfl⟩
      have hi : i < 3 := hi
      obtain rfl | rfl | rfl : i = 0 ∨ i = 1 ∨ i = 2 := by omega
      · repeat infer_instance
        ((with_reducible apply gf_lk); (eq_refl); (assumption); (eq_refl); (eq_refl); (eq_refl); (intro _; eq_refl))
        repeat infer_instance
        refine ⟨fun k => decide (k ≠ 0), fun k => .str (letN k), fun k hk B' => ?_, ?_⟩
        · have hk : k < 3 := hk
          repeat infer_instance
          rw [nm k hk]
          repeat infer_instance
          rw [show nth [.str "a", .str "b", .str "c"] 0 = PyData.str (letN 0) from rfl, nm_ne hk (by decide)]
          refine ⟨rfl, ?_⟩
          show if decide (k ≠ 0) = true then _ else _
          generalize decide (k ≠ 0) = t
          cases t <;> (repeat infer_instance)
          all_goals first | exact nm k hk | rfl
        repeat infer_instance
        refine ⟨fun j Γ => ∃ (a6 : Addr) (s7 s8 s9 s10 s11 s12 s13 : Sl), Γ = [.d (.tuple [.int x0, .int x1, .int x2, .int x3, .int x4, .int x5]), .d (.str r), .d (.list [.str "abc", .str "acb", .str "bac", .str "bca", .str "cab", .str "cba"]), .d (.list [.str "a", .str "b", .str "c"]), .own a (fndL [.int x0, .int x1, .int x2, .int x3, .int x4, .int x5] 0), .d (.str (letN 0)), .own a6 (List.take j [.bool (decide (2 * dotL [.int x0, .int x1, .int x2, .int x3, .int x4, .int x5] (msA 0 1) ≥ sumL [.int x0, .int x1, .int x2, .int x3, .int x4, .int x5])), .bool (decide (2 * dotL [.int x0, .int x1, .int x2, .int x3, .int x4, .int x5] (msA 0 2) ≥ sumL [.int x0, .int x1, .int x2, .int x3, .int x4, .int x5]))]), s7, s8, s9, s10, s11, s12, s13], ⟨_, _, _, _, _, _, _, _, rfl⟩, fun _ _ _ _ => trivial, ?_, ?_⟩
        · rintro j Γ hj ⟨a6, s7, s8, s9, s10, s11, s12, s13, rfl⟩
          have hj : j < 2 := hj
          obtain rfl | rfl : j = 0 ∨ j = 1 := by omega
          · repeat infer_instance
            ((with_reducible apply gf_lk); (eq_refl); (assumption); (eq_refl); (eq_refl); (eq_refl); (intro _; eq_refl))
            repeat infer_instance
            refine ⟨fun _ => true, fun k => .int (if decide ((ixT k 0 : Int) < (ixT k 1 : Int)) = true then 1 else 0), fun k hk B' => ?_, ?_⟩
            · have hk : k < 6 := hk
              repeat infer_instance
              refine ⟨_, od k hk, ?_⟩
              repeat infer_instance
              refine ⟨_, _, rfl, (ixT_some hk (i := 0) (by decide)).1, ?_⟩
              repeat infer_instance
              refine ⟨_, od k hk, ?_⟩
              repeat infer_instance
              refine ⟨_, _, rfl, (ixT_some hk (i := 1) (by decide)).1, ?_⟩
              repeat infer_instance
              exact ⟨rfl, rfl⟩
            repeat infer_instance
            refine ⟨⟨[.int x0, .int x1, .int x2, .int x3, .int x4, .int x5], msA 0 1, rfl, rfl, rfl, rfl, rfl⟩, ?_⟩
            show (Out.ok (.int (dotL [.int x0, .int x1, .int x2, .int x3, .int x4, .int x5] (msA 0 1)))).to _ _
            repeat infer_instance
            refine sum_tup rfl ?_
            repeat infer_instance
            refine gs_nil ?_
            exact ⟨_, _, _, _, _, _, _, _, rfl⟩
          · repeat infer_instance
            ((with_reducible apply gf_lk); (eq_refl); (assumption); (eq_refl); (eq_refl); (eq_refl); (intro _; eq_refl))
            repeat infer_instance
            refine ⟨fun _ => true, fun k => .int (if decide ((ixT k 0 : Int) < (ixT k 2 : Int)) = true then 1 else 0), fun k hk B' => ?_, ?_⟩
            · have hk : k < 6 := hk
              repeat infer_instance
              refine ⟨_, od k hk, ?_⟩
              repeat infer_instance
              refine ⟨_, _, rfl, (ixT_some hk (i := 0) (by decide)).1, ?_⟩
              repeat infer_instance
              refine ⟨_, od k hk, ?_⟩
              repeat infer_instance
              refine ⟨_, _, rfl, (ixT_some hk (i := 2) (by decide)).1, ?_⟩
              repeat infer_instance
              exact ⟨rfl, rfl⟩
            repeat infer_instance
            refine ⟨⟨[.int x0, .int x1, .int x2, .int x3, .int x4, .int x5], msA 0 2, rfl, rfl, rfl, rfl, rfl⟩, ?_⟩
            show (Out.ok (.int (dotL [.int x0, .int x1, .int x2, .int x3, .int x4, .int x5] (msA 0 2)))).to _ _
            repeat infer_instance
            refine sum_tup rfl ?_
            repeat infer_instance
            refine gs_nil ?_
            exact ⟨_, _, _, _, _, _, _, _, rfl⟩
        · rintro Γ ⟨a6, s7, s8, s9, s10, s11, s12, s13, rfl⟩
          refine gs_cons ?_
          repeat infer_instance
          refine ⟨.inr ⟨rfl, rfl⟩, ?_⟩
          generalize hq : PyData.eqv _ _ = t
          have hq : aheadB [.int x0, .int x1, .int x2, .int x3, .int x4, .int x5] (letN 0) = t := ((ahead_own (i := 0) (by decide)).trans (eqv_bl2 _ _).symm).trans hq
          have fs := fnd_succ [.int x0, .int x1, .int x2, .int x3, .int x4, .int x5] 0
          rw [hq] at fs
          cases t
          · repeat infer_instance
            repeat (with_reducible refine gs_nil ?_)
            rw [if_neg (by decide)] at fs
            exact ⟨_, _, _, _, _, _, _, _, _, _, by rw [fs] <;> rfl⟩
          · repeat infer_instance
            try refine ⟨Nat.lt_of_le_of_lt (fnd_len _ 0) (by decide), ?_⟩
            repeat infer_instance
            repeat (with_reducible refine gs_nil ?_)
            rw [if_pos rfl] at fs
            exact ⟨_, _, _, _, _, _, _, _, _, _, by rw [fs] <;> rfl⟩
      · repeat infer_instance
        ((with_reducible apply gf_lk); (eq_refl); (assumption); (eq_refl); (eq_refl); (eq_refl); (intro _; eq_refl))
        repeat infer_instance
        refine ⟨fun k => decide (k ≠ 1), fun k => .str (letN k), fun k hk B' => ?_, ?_⟩
        · have hk : k < 3 := hk
          repeat infer_instance
          rw [nm k hk]
          repeat infer_instance
          rw [show nth [.str "a", .str "b", .str "c"] 1 = PyData.str (letN 1) from rfl, nm_ne hk (by decide)]
          refine ⟨rfl, ?_⟩
          show if decide (k ≠ 1) = true then _ else _
          generalize decide (k ≠ 1) = t
          cases t <;> (repeat infer_instance)
          all_goals first | exact nm k hk | rfl
        repeat infer_instance
        refine ⟨fun j Γ => ∃ (a6 : Addr) (s7 s8 s9 s10 s11 s12 s13 : Sl), Γ = [.d (.tuple [.int x0, .int x1, .int x2, .int x3, .int x4, .int x5]), .d (.str r), .d (.list [.str "abc", .str "acb", .str "bac", .str "bca", .str "cab", .str "cba"]), .d (.list [.str "a", .str "b", .str "c"]), .own a (fndL [.int x0, .int x1, .int x2, .int x3, .int x4, .int x5] 1), .d (.str (letN 1)), .own a6 (List.take j [.bool (decide (2 * dotL [.int x0, .int x1, .int x2, .int x3, .int x4, .int x5] (msA 1 0) ≥ sumL [.int x0, .int x1, .int x2, .int x3, .int x4, .int x5])), .bool (decide (2 * dotL [.int x0, .int x1, .int x2, .int x3, .int x4, .int x5] (msA 1 2) ≥ sumL [.int x0, .int x1, .int x2, .int x3, .int x4, .int x5]))]), s7, s8, s9, s10, s11, s12, s13], ⟨_, _, _, _, _, _, _, _, rfl⟩, fun _ _ _ _ => trivial, ?_, ?_⟩
        · rintro j Γ hj ⟨a6, s7, s8, s9, s10, s11, s12, s13, rfl⟩
          have hj : j < 2 := hj
          obtain rfl | rfl : j = 0 ∨ j = 1 := by omega
          · repeat infer_instance
            ((with_reducible apply gf_lk); (eq_refl); (assumption); (eq_refl); (eq_refl); (eq_refl); (intro _; eq_refl))
            repeat infer_instance
            refine ⟨fun _ => true, fun k => .int (if decide ((ixT k 1 : Int) < (ixT k 0 : Int)) = true then 1 else 0), fun k hk B' => ?_, ?_⟩
            · have hk : k < 6 := hk
              repeat infer_instance
              refine ⟨_, od k hk, ?_⟩
              repeat infer_instance
              refine ⟨_, _, rfl, (ixT_some hk (i := 1) (by decide)).1, ?_⟩
              repeat infer_instance
              refine ⟨_, od k hk, ?_⟩
              repeat infer_instance
              refine ⟨_, _, rfl, (ixT_some hk (i := 0) (by decide)).1, ?_⟩
              repeat infer_instance
              exact ⟨rfl, rfl⟩
            repeat infer_instance
            refine ⟨⟨[.int x0, .int x1, .int x2, .int x3, .int x4, .int x5], msA 1 0, rfl, rfl, rfl, rfl, rfl⟩, ?_⟩
            show (Out.ok (.int (dotL [.int x0, .int x1, .int x2, .int x3, .int x4, .int x5] (msA 1 0)))).to _ _
            repeat infer_instance
            refine sum_tup rfl ?_
            repeat infer_instance
            refine gs_nil ?_
            exact ⟨_, _, _, _, _, _, _, _, rfl⟩
          · repeat infer_instance
            ((with_reducible apply gf_lk); (eq_refl); (assumption); (eq_refl); (eq_refl); (eq_refl); (intro _; eq_refl))
            repeat infer_instance
            refine ⟨fun _ => true, fun k => .int (if decide ((ixT k 1 : Int) < (ixT k 2 : Int)) = true then 1 else 0), fun k hk B' => ?_, ?_⟩
            · have hk : k < 6 := hk
              repeat infer_instance
              refine ⟨_, od k hk, ?_⟩
              repeat infer_instance
              refine ⟨_, _, rfl, (ixT_some hk (i := 1) (by decide)).1, ?_⟩
              repeat infer_instance
              refine ⟨_, od k hk, ?_⟩
              repeat infer_instance
              refine ⟨_, _, rfl, (ixT_some hk (i := 2) (by decide)).1, ?_⟩
              repeat infer_instance
              exact ⟨rfl, rfl⟩
            repeat infer_instance
            refine ⟨⟨[.int x0, .int x1, .int x2, .int x3, .int x4, .int x5], msA 1 2, rfl, rfl, rfl, rfl, rfl⟩, ?_⟩
            show (Out.ok (.int (dotL [.int x0, .int x1, .int x2, .int x3, .int x4, .int x5] (msA 1 2)))).to _ _
            repeat infer_instance
            refine sum_tup rfl ?_
            repeat infer_instance
            refine gs_nil ?_
            exact ⟨_, _, _, _, _, _, _, _, rfl⟩
        · rintro Γ ⟨a6, s7, s8, s9, s10, s11, s12, s13, rfl⟩
          refine gs_cons ?_
          repeat infer_instance
          refine ⟨.inr ⟨rfl, rfl⟩, ?_⟩
          generalize hq : PyData.eqv _ _ = t
          have hq : aheadB [.int x0, .int x1, .int x2, .int x3, .int x4, .int x5] (letN 1) = t := ((ahead_own (i := 1) (by decide)).trans (eqv_bl2 _ _).symm).trans hq
          have fs := fnd_succ [.int x0, .int x1, .int x2, .int x3, .int x4, .int x5] 1
          rw [hq] at fs
          cases t
          · repeat infer_instance
            repeat (with_reducible refine gs_nil ?_)
            rw [if_neg (by decide)] at fs
            exact ⟨_, _, _, _, _, _, _, _, _, _, by rw [fs] <;> rfl⟩
          · repeat infer_instance
            try refine ⟨Nat.lt_of_le_of_lt (fnd_len _ 1) (by decide), ?_⟩
            repeat infer_instance
            repeat (with_reducible refine gs_nil ?_)
            rw [if_pos rfl] at fs
            exact ⟨_, _, _, _, _, _, _, _, _, _, by rw [fs] <;> rfl⟩
      · repeat infer_instance
        ((with_reducible apply gf_lk); (eq_refl); (assumption); (eq_refl); (eq_refl); (eq_refl); (intro _; eq_refl))
        repeat infer_instance
        refine ⟨fun k => decide (k ≠ 2), fun k => .str (letN k), fun k hk B' => ?_, ?_⟩
        · have hk : k < 3 := hk
          repeat infer_instance
          rw [nm k hk]
          repeat infer_instance
          rw [show nth [.str "a", .str "b", .str "c"] 2 = PyData.str (letN 2) from rfl, nm_ne hk (by decide)]
          refine ⟨rfl, ?_⟩
          show if decide (k ≠ 2) = true then _ else _
          generalize decide (k ≠ 2) = t
          cases t <;> (repeat infer_instance)
          all_goals first | exact nm k hk | rfl
        repeat infer_instance
        refine ⟨fun j Γ => ∃ (a6 : Addr) (s7 s8 s9 s10 s11 s12 s13 : Sl), Γ = [.d (.tuple [.int x0, .int x1, .int x2, .int x3, .int x4, .int x5]), .d (.str r), .d (.list [.str "abc", .str "acb", .str "bac", .str "bca", .str "cab", .str "cba"]), .d (.list [.str "a", .str "b", .str "c"]), .own a (fndL [.int x0, .int x1, .int x2, .int x3, .int x4, .int x5] 2), .d (.str (letN 2)), .own a6 (List.take j [.bool (decide (2 * dotL [.int x0, .int x1, .int x2, .int x3, .int x4, .int x5] (msA 2 0) ≥ sumL [.int x0, .int x1, .int x2, .int x3, .int x4, .int x5])), .bool (decide (2 * dotL [.int x0, .int x1, .int x2, .int x3, .int x4, .int x5] (msA 2 1) ≥ sumL [.int x0, .int x1, .int x2, .int x3, .int x4, .int x5]))]), s7, s8, s9, s10, s11, s12, s13], ⟨_, _, _, _, _, _, _, _, rfl⟩, fun _ _ _ _ => trivial, ?_, ?_⟩
        · rintro j Γ hj ⟨a6, s7, s8, s9, s10, s11, s12, s13, rfl⟩
          have hj : j < 2 := hj
          obtain rfl | rfl : j = 0 ∨ j = 1 := by omega
          · repeat infer_instance
            ((with_reducible apply gf_lk); (eq_refl); (assumption); (eq_refl); (eq_refl); (eq_refl); (intro _; eq_refl))
            repeat infer_instance
            refine ⟨fun _ => true, fun k => .int (if decide ((ixT k 2 : Int) < (ixT k 0 : Int)) = true then 1 else 0), fun k hk B' => ?_, ?_⟩
            · have hk : k < 6 := hk
              repeat infer_instance
              refine ⟨_, od k hk, ?_⟩
              repeat infer_instance
              refine ⟨_, _, rfl, (ixT_some hk (i := 2) (by decide)).1, ?_⟩
              repeat infer_instance
              refine ⟨_, od k hk, ?_⟩
              repeat infer_instance
              refine ⟨_, _, rfl, (ixT_some hk (i := 0) (by decide)).1, ?_⟩
              repeat infer_instance
              exact ⟨rfl, rfl⟩
            repeat infer_instance
            refine ⟨⟨[.int x0, .int x1, .int x2, .int x3, .int x4, .int x5], msA 2 0, rfl, rfl, rfl, rfl, rfl⟩, ?_⟩
            show (Out.ok (.int (dotL [.int x0, .int x1, .int x2, .int x3, .int x4, .int x5] (msA 2 0)))).to _ _
            repeat infer_instance
            refine sum_tup rfl ?_
            repeat infer_instance
            refine gs_nil ?_
            exact ⟨_, _, _, _, _, _, _, _, rfl⟩
          · repeat infer_instance
            ((with_reducible apply gf_lk); (eq_refl); (assumption); (eq_refl); (eq_refl); (eq_refl); (intro _; eq_refl))
            repeat infer_instance
            refine ⟨fun _ => true, fun k => .int (if decide ((ixT k 2 : Int) < (ixT k 1 : Int)) = true then 1 else 0), fun k hk B' => ?_, ?_⟩
            · have hk : k < 6 := hk
              repeat infer_instance
              refine ⟨_, od k hk, ?_⟩
              repeat infer_instance
              refine ⟨_, _, rfl, (ixT_some hk (i := 2) (by decide)).1, ?_⟩
              repeat infer_instance
              refine ⟨_, od k hk, ?_⟩
              repeat infer_instance
              refine ⟨_, _, rfl, (ixT_some hk (i := 1) (by decide)).1, ?_⟩
              repeat infer_instance
              exact ⟨rfl, rfl⟩
            repeat infer_instance
            refine ⟨⟨[.int x0, .int x1, .int x2, .int x3, .int x4, .int x5], msA 2 1, rfl, rfl, rfl, rfl, rfl⟩, ?_⟩
            show (Out.ok (.int (dotL [.int x0, .int x1, .int x2, .int x3, .int x4, .int x5] (msA 2 1)))).to _ _
            repeat infer_instance
            refine sum_tup rfl ?_
            repeat infer_instance
            refine gs_nil ?_
            exact ⟨_, _, _, _, _, _, _, _, rfl⟩
        · rintro Γ ⟨a6, s7, s8, s9, s10, s11, s12, s13, rfl⟩
          refine gs_cons ?_
          repeat infer_instance
          refine ⟨.inr ⟨rfl, rfl⟩, ?_⟩
          generalize hq : PyData.eqv _ _ = t
          have hq : aheadB [.int x0, .int x1, .int x2, .int x3, .int x4, .int x5] (letN 2) = t := ((ahead_own (i := 2) (by decide)).trans (eqv_bl2 _ _).symm).trans hq
          have fs := fnd_succ [.int x0, .int x1, .int x2, .int x3, .int x4, .int x5] 2
          rw [hq] at fs
          cases t
          · repeat infer_instance
            repeat (with_reducible refine gs_nil ?_)
            rw [if_neg (by decide)] at fs
            exact ⟨_, _, _, _, _, _, _, _, _, _, by rw [fs] <;> rfl⟩
          · repeat infer_instance
            try refine ⟨Nat.lt_of_le_of_lt (fnd_len _ 2) (by decide), ?_⟩
            repeat infer_instance
            repeat (with_reducible refine gs_nil ?_)
            rw [if_pos rfl] at fs
            exact ⟨_, _, _, _, _, _, _, _, _, _, by rw [fs] <;> rfl⟩
    · rintro Γ ⟨a, s5, s6, s7, s8, s9, s10, s11, s12, s13, rfl⟩
      refine gs_cons ?_
      repeat infer_instance
      refine ⟨((List.range 3).filter fun j => aheadB [.int x0, .int x1, .int x2, .int x3, .int x4, .int x5] (letN j)).map letN, .inl (fndS _), (by exact win_short0 _), ?_⟩
      repeat infer_instance
      show Out.ok (.str (Txt.join "" (winS [.int x0, .int x1, .int x2, .int x3, .int x4, .int x5] r))) = _
      unfold winS
      rw [h1, if_pos rfl]
  have hr : r = "firsts" ∨ r = "lasts" ∨ r = "points" := by
    have n := of_decide_eq_false h1
    have hr : r ∈ (["firsts", "lasts", "points", "pairs"] : List Str) := hr
    simp only [List.mem_cons, List.not_mem_nil, or_false] at hr
    rcases hr with h | h | h | h
    · exact .inl h
    · exact .inr (.inl h)
    · exact .inr (.inr h)
    · exact absurd h n
  have fin : ∀ t, t = .ok (.str (Txt.join "" (((List.range 3).filter fun i => topB (marksL [.int x0, .int x1, .int x2, .int x3, .int x4, .int x5] (ptsOf r)) i).map letN))) → t = Out.ok (wonD [.tuple [.int x0, .int x1, .int x2, .int x3, .int x4, .int x5], .str r]) := by
    rintro _ rfl
    show _ = Out.ok (.str (Txt.join "" (winS [.int x0, .int x1, .int x2, .int x3, .int x4, .int x5] r)))
    unfold winS
    rw [h1, if_neg (by decide), List.filter_congr fun i hi => top_own hr (List.mem_range.mp hi)]
  refine gs_nil ?_
  repeat infer_instance
  refine pts_or hr ?_
  repeat infer_instance
  ((with_reducible apply gf_lk); (eq_refl); (assumption); (eq_refl); (eq_refl); (eq_refl); (intro _; eq_refl))
  repeat infer_instance
  refine ⟨fun _ => true, fun i => .int (dotL [.int x0, .int x1, .int x2, .int x3, .int x4, .int x5] (msP (ptsOf r) i)), fun i hi B' => ?_, ?_⟩
  · have hi : i < 3 := hi
    repeat infer_instance
    ((with_reducible apply gf_lk); (eq_refl); (assumption); (eq_refl); (eq_refl); (eq_refl); (intro _; eq_refl))
    repeat infer_instance
    refine ⟨fun _ => true, fun k => nth (ptsOf r) (ixT k i), fun k hk B' => ?_, ?_⟩
    · have hk : k < 6 := hk
      repeat infer_instance
      have hI := ixT_some hk hi
      refine ⟨_, od k hk, ?_⟩
      repeat infer_instance
      refine ⟨_, _, (nm i hi), hI.1, ?_⟩
      repeat infer_instance
      refine ix_k (by omega) (by rw [pts_len]; omega) ?_
      rw [Int.toNat_natCast]
      repeat infer_instance
      all_goals exact ⟨rfl, rfl⟩
    repeat infer_instance
    refine ⟨⟨[.int x0, .int x1, .int x2, .int x3, .int x4, .int x5], msP (ptsOf r) i, rfl, rfl, rfl, rfl, msP_small hr hi⟩, ?_⟩
    show (Out.ok (.int (dotL [.int x0, .int x1, .int x2, .int x3, .int x4, .int x5] (msP (ptsOf r) i)))).to _ _
    repeat infer_instance
    all_goals exact ⟨rfl, rfl⟩
  repeat infer_instance
  generalize hM : List.map (fun i => PyData.int (dotL [.int x0, .int x1, .int x2, .int x3, .int x4, .int x5] (msP (ptsOf r) i))) _ = M
  have hM : marksL [.int x0, .int x1, .int x2, .int x3, .int x4, .int x5] (ptsOf r) = M := hM
  have hL : M.length = 3 := by rw [← hM] <;> rfl
  have hA : M.all isI = true := by rw [← hM] <;> rfl
  rw [hM] at fin
  ((with_reducible apply gf_lk); (eq_refl); (assumption); (eq_refl); (eq_refl); (eq_refl); (intro _; eq_refl))
  ((with_reducible apply gi_zip true true); (eq_refl); (eq_refl); (exact Gls.zip (by assumption)); (eq_refl); (eq_refl); (eq_refl))
  repeat infer_instance
  rw [hL]
  refine ⟨⟨trivial, trivial⟩, (show 3 ≤ sizeLine by decide), fun i => topB M i, fun i => .str (letN i), fun i hi B' => ?_, ?_⟩
  · have hi : i < 3 := hi
    have h2 : i < M.length := by omega
    repeat infer_instance
    refine max_lst hA (by omega) fun m hm mx => ?_
    refine eq_p (by rw [(isI_nth hA h2).1] <;> rfl) ?_
    rw [top_eq hA h2 hm mx]
    repeat infer_instance
    rw [nm i hi]
    generalize topB M i = t
    cases t <;> (repeat infer_instance)
    all_goals rfl
  repeat infer_instance
  refine ⟨((List.range 3).filter fun i => topB M i).map letN, .inl (by rw [List.map_map] <;> rfl), (by exact win_short0 _), ?_⟩
  repeat infer_instance
  exact (fin _ rfl).symm
end
end K75
namespace K75
open PySem PySem.Spec PyProof.Rows L2 Tc Px
open Py
local macro_rules | `(tactic| infer_instance) => `(tactic| first
  | ((with_reducible show GE _ _ (Expr.BinOp (Expr.List _ _) Operator.Mult _ _) _ _); (with_reducible refine ge_ofF ?_); (with_reducible refine gf_rep ?_))
  | ((with_reducible show GE _ _ (Expr.Name _ _) _ _); (with_reducible apply name_vd); (eq_refl); (eq_refl); (eq_refl); (assumption); rotate_left; (decide); (decide))
  | ((with_reducible show G1 _ _ (Stmt.Assign [Expr.Tuple [Expr.Name _ _, Expr.Name _ _] _ _] (Expr.Tuple _ _ _) _) _ _); (with_reducible apply par_n); (with_reducible assumption); (assumption); (eq_refl); (eq_refl); (eq_refl); (eq_refl); (eq_refl); (eq_refl); (eq_refl); (eq_refl))
  | ((with_reducible show G1 _ _ (Stmt.Assign [Expr.Name "_law_found" _] (Expr.BinOp _ _ _ _) _) _ _); (with_reducible apply set_l); (with_reducible assumption); (eq_refl); (eq_refl); rotate_left; (eq_refl))
  | ((with_reducible show G1 _ _ (Stmt.Assign [Expr.Name "_law_found" _] (Expr.IfExp _ _ _ _) _) _ _); (with_reducible apply set_l); (with_reducible assumption); (eq_refl); (eq_refl); rotate_left; (eq_refl))
  | ((with_reducible show GF _ _ (Expr.BinOp (Expr.List _ _) Operator.Mult _ _) _ _); (with_reducible refine gf_rep ?_))
  | ((with_reducible show GF _ _ (Expr.IfExp _ _ _ _) _ _); (with_reducible refine gf_if ?_))
  | ((with_reducible show ∀ B0 : Bas, Same _ _ → _); intro _ _ _)
  | ((with_reducible show ∃ k0 : Int, _ = PyData.int k0 ∧ (0 ≤ k0 ∧ k0 ≤ 1000) ∧ _); refine ⟨_, rfl, ⟨by first | decide | omega, by first | decide | omega⟩, Nat.le_of_ble_eq_true rfl, ?_⟩)
  | ((with_reducible show ∀ a0 : Addr, Alone _ a0 → _); intro _ _)
  | (with_reducible refine gs_nil ?_)
  )
section
variable {P : Program} {w : World} {K : PySem.W.Frag} {mg : Str → Option Value} {base : Heap}
def RProf (ps ds : List PyData) (o : Out) (ps' : List PyData) : Prop := Well ps' ∧ ∃ (xs : List PyData) (n : Int), o = .ok (.tuple xs) ∧ Nats 6 n xs ∧ 1 ≤ n ∧ n ≤ 60
theorem sc_lprofile : FnScope ["_law_well_here", "_law_way", "_law_many", "_law_found", "_law_rest", "_law_turn", "_law_own", "_law_k"] ["_law_well_here"] (defScope s_lprofile) := ⟨rfl, rfl, rfl, by decide +kernel, rfl, by decide +kernel, by decide +kernel⟩
theorem prof_tail (F1 : Call P w K mg base (L2.CX P w) 1 "_law_draw" ["_law_well_here", "_law_top"] (spP 1 preDraw RDraw)) (B : Gls mg) {f : Addr} {cdv : Value} {A : Around} {outer : List Env} {s : Shared} {H : Hp} {E : XK} {Bs : Bas} {ad : Addr} {ms : List PyData}
    (c : Bod (cxOf (L2.CX P w) P w K mg base ["_law_well_here", "_law_way", "_law_many", "_law_found", "_law_rest", "_law_turn", "_law_own", "_law_k"] "_law_profile" (defScope s_lprofile) f cdv A outer s H E) 1) (ex : Exc Bs (cxOf (L2.CX P w) P w K mg base ["_law_well_here", "_law_way", "_law_many", "_law_found", "_law_rest", "_law_turn", "_law_own", "_law_k"] "_law_profile" (defScope s_lprofile) f cdv A outer s H E) (fun C d Γ => ∃ ms', Γ[0]? = some (.own ad ms') ∧ RProf ms [] (.up C d) ms')) :
    ∀ (m2 : List PyData) (s1 s2 s4 s5 s6 s7 : Sl) (a2 : Addr) (fs : List PyData) (n : Int), Well m2 → Nats 6 n fs → 0 ≤ n → n ≤ 60 →
      Gs Bs (cxOf (L2.CX P w) P w K mg base ["_law_well_here", "_law_way", "_law_many", "_law_found", "_law_rest", "_law_turn", "_law_own", "_law_k"] "_law_profile" (defScope s_lprofile) f cdv A outer s H E) ((defBody s_lprofile).drop 3) [.own ad m2, s1, s2, .own a2 fs, s4, s5, s6, s7]
        { nx := fun Γ => ∃ ms', Γ[0]? = some (.own ad ms') ∧ RProf ms [] (.ok .none) ms', rt := fun d Γ => ∃ ms', Γ[0]? = some (.own ad ms') ∧ RProf ms [] (.ok d) ms' } := by
  have nd := sc_lprofile.nd
  intro m2 s1 s2 s4 s5 s6 s7 a2 fs n hw2 hf n0 n60
  have al : fs.all isI = true := List.all_eq_true.mpr fun d hd => by
    obtain ⟨i, hi, e⟩ := List.getElem_of_mem hd
    have z := (hf.nat i (by rw [← hf.len]; exact hi)).1
    rw [nth_at (List.getElem?_eq_getElem hi), e] at z
    rw [z]
    rfl
  have hw := hw2
  refine gs_cons ?_
  repeat infer_instance
  refine sum_lst al ?_
  rw [hf.sum]
  repeat infer_instance
  rw [eqv_int]
  generalize hz : decide (n = 0) = t
  cases t
  case true =>
    have hz := of_decide_eq_true hz
    repeat infer_instance
    refine ⟨⟨hw, _, rfl, by first | decide | omega, by first | decide | omega⟩, fun o ms1 hR => ?_⟩
    clear hw
    obtain ⟨hw, k, top, e, rfl, k0, k1⟩ := hR
    cases e
    refine to_ok ?_
    repeat infer_instance
    refine ix_k k0 (by rw [hf.len]; omega) ?_
    rw [(hf.nat k.toNat (by omega)).1]
    repeat infer_instance
    refine ⟨_, _, rfl, _, rfl, ixN_k k0 (by rw [hf.len]; omega), ?_⟩
    have hg := (hf.nat k.toNat (by omega)).2
    repeat infer_instance
    exact ⟨hw, _, _, rfl, hf.put (by omega) (by omega), by omega, by omega⟩
  have hz := of_decide_eq_false hz
  repeat infer_instance
  refine sum_lst al ?_
  rw [hf.sum]
  repeat infer_instance
  generalize hs : decide (n < 60) = t
  cases t
  case false =>
    repeat infer_instance
    exact ⟨hw, _, _, rfl, hf, by omega, n60⟩
  have hs := of_decide_eq_true hs
  repeat infer_instance
  refine ⟨⟨hw, _, rfl, by first | decide | omega, by first | decide | omega⟩, fun o ms1 hR => ?_⟩
  clear hw
  obtain ⟨hw, u, top, e, rfl, u0, u1⟩ := hR
  cases e
  refine to_ok ?_
  repeat infer_instance
  rw [eqv_int]
  generalize decide (u = 0) = t
  cases t
  case false =>
    repeat infer_instance
    exact ⟨hw, _, _, rfl, hf, by omega, n60⟩
  repeat infer_instance
  refine ⟨⟨hw, _, rfl, by first | decide | omega, by first | decide | omega⟩, fun o ms1 hR => ?_⟩
  clear hw
  obtain ⟨hw, k, top, e, rfl, k0, k1⟩ := hR
  cases e
  refine to_ok ?_
  repeat infer_instance
  refine ix_k k0 (by rw [hf.len]; omega) ?_
  rw [(hf.nat k.toNat (by omega)).1]
  repeat infer_instance
  refine ⟨_, _, rfl, _, rfl, ixN_k k0 (by rw [hf.len]; omega), ?_⟩
  have hg := (hf.nat k.toNat (by omega)).2
  repeat infer_instance
  exact ⟨hw, _, _, rfl, hf.put (by omega) (by omega), by omega, by omega⟩
end
end K75
namespace K75
open PySem PySem.Spec PyProof.Rows L2 Tc Px
open Py
local macro_rules | `(tactic| infer_instance) => `(tactic| first
  | ((with_reducible show GE _ _ (Expr.BinOp (Expr.List _ _) Operator.Mult _ _) _ _); (with_reducible refine ge_ofF ?_); (with_reducible refine gf_rep ?_))
  | ((with_reducible show G1 _ _ (Stmt.Assign [Expr.Tuple [Expr.Name _ _, Expr.Name _ _] _ _] (Expr.Tuple _ _ _) _) _ _); (with_reducible apply par_n); (with_reducible assumption); (assumption); (eq_refl); (eq_refl); (eq_refl); (eq_refl); (eq_refl); (eq_refl); (eq_refl); (eq_refl))
  | ((with_reducible show G1 _ _ (Stmt.For _ _ _ _ _) _ _); (with_reducible apply g1_for); (with_reducible assumption); rotate_left; (intro _; eq_refl))
  | ((with_reducible show G1 _ _ (Stmt.Assign [Expr.Name "_law_found" _] (Expr.BinOp _ _ _ _) _) _ _); (with_reducible apply set_l); (with_reducible assumption); (eq_refl); (eq_refl); rotate_left; (eq_refl))
  | ((with_reducible show G1 _ _ (Stmt.Assign [Expr.Name "_law_found" _] (Expr.IfExp _ _ _ _) _) _ _); (with_reducible apply set_l); (with_reducible assumption); (eq_refl); (eq_refl); rotate_left; (eq_refl))
  | ((with_reducible show GF _ _ (Expr.BinOp (Expr.List _ _) Operator.Mult _ _) _ _); (with_reducible refine gf_rep ?_))
  | ((with_reducible show GF _ _ (Expr.IfExp _ _ _ _) _ _); (with_reducible refine gf_if ?_))
  | ((with_reducible show ∀ B0 : Bas, Same _ _ → _); intro _ _ _)
  | ((with_reducible show ∃ k0 : Int, _ = PyData.int k0 ∧ (0 ≤ k0 ∧ k0 ≤ 1000) ∧ _); refine ⟨_, rfl, ⟨by first | decide | omega, by first | decide | omega⟩, Nat.le_of_ble_eq_true rfl, ?_⟩)
  | ((with_reducible show ∀ a0 : Addr, Alone _ a0 → _); intro _ _)
  )
section
variable {P : Program} {w : World} {K : PySem.W.Frag} {mg : Str → Option Value} {base : Heap}
theorem zero6 : Nats 6 0 (List.replicate (6 : Int).toNat [PyData.int 0]).flatten := ⟨rfl, fun i hi => by
  match i, hi with
  | 0, _ | 1, _ | 2, _ | 3, _ | 4, _ | 5, _ => exact ⟨rfl, Int.le_refl 0⟩, rfl⟩
theorem ok_profile (F1 : Call P w K mg base (L2.CX P w) 1 "_law_draw" ["_law_well_here", "_law_top"] (spP 1 preDraw RDraw)) {f : Addr} {fd : FuncData} (F : Fun K "_law_profile" "_law_profile" s_lprofile f fd) (sm : ∃ o, K.lookup sysModules = some o) (B : Gls mg) :
    FnG P w K mg base (L2.CX P w) 2 f fd ["_law_well_here"] (spP 0 (fun ps _ => Well ps) RProf) := by
  refine fn_pail F sc_lprofile sm rfl _ _ fun cdv A outer s H E Bs ad ms ds hl hw c ex => ?_
  have nd := sc_lprofile.nd
  obtain rfl : ds = [] := List.eq_nil_of_length_eq_zero hl
  have tail := prof_tail (ms := ms) F1 B c ex
  refine gs_cons ?_
  repeat infer_instance
  refine ⟨⟨hw, _, rfl, by first | decide | omega, by first | decide | omega⟩, fun o ms1 hR => ?_⟩
  clear hw
  obtain ⟨hw, way, top, e, rfl, way0, way1⟩ := hR
  cases e
  refine to_ok ?_
  repeat infer_instance
  refine ⟨⟨hw, _, rfl, by first | decide | omega, by first | decide | omega⟩, fun o ms1 hR => ?_⟩
  clear hw
  obtain ⟨hw, many, top, e, rfl, many0, many1⟩ := hR
  cases e
  refine to_ok ?_
  repeat infer_instance
  generalize decide (way < 2) = t
  cases t
  case true =>
    repeat infer_instance
    refine ⟨⟨hw, _, rfl, by first | decide | omega, by first | decide | omega⟩, fun o ms1 hR => ?_⟩
    clear hw
    obtain ⟨hw, rest, top, e, rfl, rest0, rest1⟩ := hR
    cases e
    refine to_ok ?_
    repeat infer_instance
    refine ⟨⟨hw, _, rfl, by first | decide | omega, by first | decide | omega⟩, fun o ms1 hR => ?_⟩
    clear hw
    obtain ⟨hw, u, top, e, rfl, u0, u1⟩ := hR
    cases e
    refine to_ok ?_
    repeat infer_instance
    refine ⟨by omega, by omega, fun _ Γ => ∃ (a2 : Addr) (m2 : List PyData) (s5 s6 s7 : Sl) (fs : List PyData) (n r : Int), Γ = [.own ad m2, .d (.int way), .d (.int (1 + many)), .own a2 fs, .d (.int r), s5, s6, s7] ∧ Well m2 ∧ Nats 6 n fs ∧ 0 ≤ n ∧ 0 ≤ r ∧ n + r = 1 + rest, ⟨_, _, _, _, _, _, 0, _, rfl, hw, zero6, by omega, by omega, by omega⟩, fun _ _ _ _ => trivial, ?_, ?_⟩
    · clear hw
      rintro i Γ hi ⟨a2, m2, s5, s6, s7, fs, n, r, rfl, hw, hf, n0, r0, er⟩
      repeat infer_instance
      refine ⟨⟨hw, _, rfl, by first | decide | omega, by first | decide | omega⟩, fun o ms1 hR => ?_⟩
      clear hw
      obtain ⟨hw, own, top, e, rfl, own0, own1⟩ := hR
      cases e
      refine to_ok ?_
      repeat infer_instance
      refine ⟨⟨hw, _, rfl, by first | decide | omega, by first | decide | omega⟩, fun o ms1 hR => ?_⟩
      clear hw
      obtain ⟨hw, k, top, e, rfl, k0, k1⟩ := hR
      cases e
      refine to_ok ?_
      repeat infer_instance
      refine ix_k k0 (by rw [hf.len]; omega) ?_
      rw [(hf.nat k.toNat (by omega)).1]
      repeat infer_instance
      refine ggs_putn rfl rfl rfl rfl rfl rfl (ixN_k k0 (by rw [hf.len]; omega)) ?_ (by decide) (by decide) (by decide) (by decide) (by intro _; rfl) (by rfl)
      have hg := (hf.nat k.toNat (by omega)).2
      repeat infer_instance
      refine gs_nil ?_
      exact ⟨_, _, _, _, _, _, _, _, rfl, hw, hf.put (k := k.toNat) (by omega) (by omega), by omega, by omega, by omega⟩
    · clear hw
      rintro Γ ⟨a2, m2, s5, s6, s7, fs, n, r, rfl, hw, hf, n0, r0, er⟩
      repeat infer_instance
      refine ⟨⟨hw, _, rfl, by first | decide | omega, by first | decide | omega⟩, fun o ms1 hR => ?_⟩
      clear hw
      obtain ⟨hw, k, top, e, rfl, k0, k1⟩ := hR
      cases e
      refine to_ok ?_
      repeat infer_instance
      refine ix_k k0 (by rw [hf.len]; omega) ?_
      rw [(hf.nat k.toNat (by omega)).1]
      repeat infer_instance
      refine ⟨_, _, rfl, _, rfl, ixN_k k0 (by rw [hf.len]; omega), ?_⟩
      have hg := (hf.nat k.toNat (by omega)).2
      refine gs_nil ?_
      exact tail _ _ _ _ _ _ _ _ _ _ hw (hf.put (k := k.toNat) (by omega) (by omega)) (by omega) (by omega)
  repeat infer_instance
  rw [eqv_int]
  generalize decide (way = 2) = t
  cases t
  case true =>
    repeat infer_instance
    (with_reducible apply set_lo)
    (assumption)
    (assumption)
    iterate 6 eq_refl
    (intro _; rfl)
    repeat infer_instance
    refine ⟨by decide, by decide, fun (i : Nat) (acc : List PyData) (Γ : List Sl) => ∃ (a2 : Addr) (m2 fs : List PyData) (n : Int), Γ = [.own ad m2, .d (.int way), .d (.int (1 + many)), .own a2 fs, .no, .no, .no, .no] ∧ Well m2 ∧ Nats i n acc ∧ 0 ≤ n ∧ n ≤ 2 * i, ⟨_, _, _, 0, rfl, hw, ⟨rfl, fun i hi => absurd hi (by omega), rfl⟩, by omega, by omega⟩, fun _ _ _ _ _ => trivial, ?_, ?_⟩
    · clear hw
      rintro i acc Γ hi ⟨a2, m2, fs, n, rfl, hw, hf, n0, n1⟩ B'
      have hi : i < 6 := hi
      repeat infer_instance
      refine ⟨⟨hw, _, rfl, by first | decide | omega, by first | decide | omega⟩, fun o ms1 hR => ?_⟩
      clear hw
      obtain ⟨hw, v, top, e, rfl, v0, v1⟩ := hR
      cases e
      refine to_ok ?_
      refine ⟨by rw [hf.len]; exact Nat.lt_of_lt_of_le hi (by decide), ?_⟩
      exact ⟨_, _, _, _, rfl, hw, hf.snoc v0, by omega, by omega⟩
    · clear hw
      rintro acc Γ ⟨a2, m2, fs, n, rfl, hw, hf, n0, n1⟩
      have n1 : n ≤ 2 * 6 := n1
      refine ⟨rfl, fun a al => ?_⟩
      repeat (with_reducible refine gs_nil ?_)
      exact tail _ _ _ _ _ _ _ _ _ _ hw hf n0 (by omega)
  repeat infer_instance
  rw [eqv_int]
  generalize decide (way = 3) = t
  cases t
  case true =>
    repeat infer_instance
    refine ⟨⟨hw, _, rfl, by first | decide | omega, by first | decide | omega⟩, fun o ms1 hR => ?_⟩
    clear hw
    obtain ⟨hw, v, top, e, rfl, v0, v1⟩ := hR
    cases e
    refine to_ok ?_
    repeat infer_instance
    rw [eqv_int]
    generalize decide (v = 0) = t
    cases t
    · repeat infer_instance
      repeat (with_reducible refine gs_nil ?_)
      exact tail _ _ _ _ _ _ _ _ [.int 0, .int (1 + many), .int (1 + many), .int 0, .int 0, .int (1 + many)] _ hw (nats6 (by omega) (by omega) (by omega) (by omega) (by omega) (by omega)) (by omega) (by omega)
    · repeat infer_instance
      repeat (with_reducible refine gs_nil ?_)
      exact tail _ _ _ _ _ _ _ _ [.int (1 + many), .int 0, .int 0, .int (1 + many), .int (1 + many), .int 0] _ hw (nats6 (by omega) (by omega) (by omega) (by omega) (by omega) (by omega)) (by omega) (by omega)
  repeat infer_instance
  rw [eqv_int]
  generalize decide (way = 4) = t
  cases t
  case true =>
    repeat infer_instance
    refine ⟨⟨hw, _, rfl, by first | decide | omega, by first | decide | omega⟩, fun o ms1 hR => ?_⟩
    clear hw
    obtain ⟨hw, k, top, e, rfl, k0, k1⟩ := hR
    cases e
    refine to_ok ?_
    repeat infer_instance
    obtain rfl | rfl | rfl | rfl | rfl | rfl : k = 0 ∨ k = 1 ∨ k = 2 ∨ k = 3 ∨ k = 4 ∨ k = 5 := by omega
    · refine ggs_putn rfl rfl rfl rfl rfl rfl (m := 0) rfl ?_ (by decide) (by decide) (by decide) (by decide) (by intro _; rfl) (by rfl)
      refine ggs_put (n := 5) (m := 5) rfl rfl rfl (fun ψ h => ?_) rfl ?_ (by decide) (by decide) (by intro _; rfl) (by rfl)
      · repeat infer_instance
        exact h
      repeat infer_instance
      repeat (with_reducible refine gs_nil ?_)
      exact tail _ _ _ _ _ _ _ _ [.int (1 + many), .int 0, .int 0, .int 0, .int 0, .int (1 + many)] _ hw (nats6 (by omega) (by omega) (by omega) (by omega) (by omega) (by omega)) (by omega) (by omega)
    · refine ggs_putn rfl rfl rfl rfl rfl rfl (m := 1) rfl ?_ (by decide) (by decide) (by decide) (by decide) (by intro _; rfl) (by rfl)
      refine ggs_put (n := 3) (m := 3) rfl rfl rfl (fun ψ h => ?_) rfl ?_ (by decide) (by decide) (by intro _; rfl) (by rfl)
      · repeat infer_instance
        exact h
      repeat infer_instance
      repeat (with_reducible refine gs_nil ?_)
      exact tail _ _ _ _ _ _ _ _ [.int 0, .int (1 + many), .int 0, .int (1 + many), .int 0, .int 0] _ hw (nats6 (by omega) (by omega) (by omega) (by omega) (by omega) (by omega)) (by omega) (by omega)
    · refine ggs_putn rfl rfl rfl rfl rfl rfl (m := 2) rfl ?_ (by decide) (by decide) (by decide) (by decide) (by intro _; rfl) (by rfl)
      refine ggs_put (n := 4) (m := 4) rfl rfl rfl (fun ψ h => ?_) rfl ?_ (by decide) (by decide) (by intro _; rfl) (by rfl)
      · repeat infer_instance
        exact h
      repeat infer_instance
      repeat (with_reducible refine gs_nil ?_)
      exact tail _ _ _ _ _ _ _ _ [.int 0, .int 0, .int (1 + many), .int 0, .int (1 + many), .int 0] _ hw (nats6 (by omega) (by omega) (by omega) (by omega) (by omega) (by omega)) (by omega) (by omega)
    · refine ggs_putn rfl rfl rfl rfl rfl rfl (m := 3) rfl ?_ (by decide) (by decide) (by decide) (by decide) (by intro _; rfl) (by rfl)
      refine ggs_put (n := 1) (m := 1) rfl rfl rfl (fun ψ h => ?_) rfl ?_ (by decide) (by decide) (by intro _; rfl) (by rfl)
      · repeat infer_instance
        exact h
      repeat infer_instance
      repeat (with_reducible refine gs_nil ?_)
      exact tail _ _ _ _ _ _ _ _ [.int 0, .int (1 + many), .int 0, .int (1 + many), .int 0, .int 0] _ hw (nats6 (by omega) (by omega) (by omega) (by omega) (by omega) (by omega)) (by omega) (by omega)
    · refine ggs_putn rfl rfl rfl rfl rfl rfl (m := 4) rfl ?_ (by decide) (by decide) (by decide) (by decide) (by intro _; rfl) (by rfl)
      refine ggs_put (n := 2) (m := 2) rfl rfl rfl (fun ψ h => ?_) rfl ?_ (by decide) (by decide) (by intro _; rfl) (by rfl)
      · repeat infer_instance
        exact h
      repeat infer_instance
      repeat (with_reducible refine gs_nil ?_)
      exact tail _ _ _ _ _ _ _ _ [.int 0, .int 0, .int (1 + many), .int 0, .int (1 + many), .int 0] _ hw (nats6 (by omega) (by omega) (by omega) (by omega) (by omega) (by omega)) (by omega) (by omega)
    · refine ggs_putn rfl rfl rfl rfl rfl rfl (m := 5) rfl ?_ (by decide) (by decide) (by decide) (by decide) (by intro _; rfl) (by rfl)
      refine ggs_put (n := 0) (m := 0) rfl rfl rfl (fun ψ h => ?_) rfl ?_ (by decide) (by decide) (by intro _; rfl) (by rfl)
      · repeat infer_instance
        exact h
      repeat infer_instance
      repeat (with_reducible refine gs_nil ?_)
      exact tail _ _ _ _ _ _ _ _ [.int (1 + many), .int 0, .int 0, .int 0, .int 0, .int (1 + many)] _ hw (nats6 (by omega) (by omega) (by omega) (by omega) (by omega) (by omega)) (by omega) (by omega)
  repeat infer_instance
  repeat (with_reducible refine gs_nil ?_)
  exact tail _ _ _ _ _ _ _ _ [.int (1 + many), .int (1 + many), .int (1 + many), .int (1 + many), .int (1 + many), .int (1 + many)] _ hw (nats6 (by omega) (by omega) (by omega) (by omega) (by omega) (by omega)) (by omega) (by omega)
end
end K75
namespace K75
open PySem PySem.Spec PyProof.Rows L2 Tc Px
local macro_rules | `(tactic| infer_instance) => `(tactic| first
  | (with_reducible refine gs_nil ?_)
  )
section
variable {P : Program} {w : World} {K : PySem.W.Frag} {mg : Str → Option Value} {base : Heap}
theorem short3 (q : Nat → Bool) : (((((List.range 3).filter q).map letN).map (·.length)).sum + (((List.range 3).filter q).map letN).length * ("" : Str).length) ≤ 16777216 := by
  show ((((([0, 1, 2] : List Nat).filter q).map letN).map (·.length)).sum + ((([0, 1, 2] : List Nat).filter q).map letN).length * _) ≤ _
  cases h0 : q 0 <;> cases h1 : q 1 <;> cases h2 : q 2 <;> simp only [List.filter, h0, h1, h2] <;> decide
theorem win_short (xs : List PyData) (r : Str) : ((winS xs r).map (·.length)).sum + (winS xs r).length * ("" : Str).length ≤ 16777216 := by
  unfold winS
  split <;> exact short3 _
/-- what winners tells -/
def winO (CP CR : Addr) : List PyData → Out
  | [d, r] => if profB d = true then (if ruleB r = true then .ok (.str (match d, r with
    | .tuple xs, .str z => Txt.join "" (winS xs z)
    | _, _ => "")) else .up CR r) else .up CP d
  | _ => .ok .none
theorem prof_tup {d : PyData} (h : profB d = true) : ∃ xs, d = .tuple xs ∧ xs.length = 6 ∧ xs.all natB = true := by
  cases d with
  | tuple xs =>
    have h : ((decide ((xs.length : Int) = 6) && xs.all natB) && _) = true := h
    obtain ⟨a, _⟩ := (Bool.and_eq_true _ _).mp h
    obtain ⟨a, b⟩ := (Bool.and_eq_true _ _).mp a
    have a := of_decide_eq_true a
    exact ⟨xs, rfl, by omega, b⟩
  | _ => cases h
theorem rule_str {d : PyData} (h : ruleB d = true) : ∃ z, d = .str z ∧ z ∈ rules := by
  cases d with
  | str z =>
    obtain ⟨y, hy, e⟩ := List.any_eq_true.mp (show (rules.any fun y => decide (y = z)) = true from h)
    exact ⟨z, rfl, of_decide_eq_true e ▸ hy⟩
  | _ => cases h
theorem sc_winners : FnScope ["profile", "rule"] ["profile", "rule"] (defScope s_winners) := ⟨rfl, rfl, rfl, by decide +kernel, rfl, by decide +kernel, by decide +kernel⟩
theorem ok_winners {CP CR : Addr} (F1 : Call P w K mg base (L2.CX P w) 4 "need_profile" ["profile"] (spF 1 (fun _ => True) fun ds => if profB (ds.headD .none) = true then .ok .none else .up CP (ds.headD .none))) (F2 : Call P w K mg base (L2.CX P w) 1 "_need_rule" ["rule"] (spF 1 (fun _ => True) fun ds => if ruleB (ds.headD .none) = true then .ok .none else .up CR (ds.headD .none)))
    (F3 : Call P w K mg base (L2.CX P w) 4 "_winners" ["profile", "rule"] (spF 2 pre6r fun ds => .ok (winD ds)))
    {f : Addr} {fd : FuncData} (F : Fun K "winners" "winners" s_winners f fd) (sm : ∃ o, K.lookup sysModules = some o) (B : Gls mg) :
    FnG P w K mg base (L2.CX P w) 5 f fd ["profile", "rule"] (spF 2 (fun _ => True) fun ds => winO CP CR ds) := by
  refine fn_data F sc_winners sm (by decide) _ _ fun cdv A outer s H E Bs ds hl hp c ex => ?_
  have nd := sc_winners.nd
  match ds, hl, hp with
  | [d, r], hl, hp =>
  refine gs_cons ?_
  repeat infer_instance
  rw [List.headD_cons]
  generalize h1 : profB d = t
  cases t
  · repeat infer_instance
    show (if profB d = true then _ else Out.up CP d) = _
    rw [if_neg (by rw [h1] <;> decide)]
  repeat infer_instance
  rw [List.headD_cons]
  generalize h2 : ruleB r = t
  cases t
  · repeat infer_instance
    show (if profB d = true then (if ruleB r = true then _ else Out.up CR r) else _) = _
    rw [if_pos h1, if_neg (by rw [h2] <;> decide)]
  obtain ⟨xs, rfl, hn, ha⟩ := prof_tup h1
  obtain ⟨z, rfl, hz⟩ := rule_str h2
  repeat infer_instance
  refine ⟨⟨xs, z, rfl, hn, nat_int ha⟩, winS xs z, .inl rfl, win_short xs z, ?_⟩
  show (if profB (.tuple xs) = true then (if ruleB (.str z) = true then Out.ok (.str (Txt.join "" (winS xs z))) else _) else _) = _
  rw [if_pos h1, if_pos h2] <;> rfl
end
end K75
namespace K75
open PySem PySem.Spec PyProof.Rows L2 Tc Px
open Py
local macro_rules | `(tactic| infer_instance) => `(tactic| first
  | ((with_reducible show GE _ _ (Expr.Call (Expr.Name "_law_refused_right" _) (_ :: _) [] _) _ _); (with_reducible apply pailT_e); (case F => with_reducible assumption); (exact ⟨rfl, rfl, rfl, rfl, rfl⟩); (with_reducible assumption); (with_reducible assumption); (exact Bod.toCxt (by with_reducible assumption)); (eq_refl); (eq_refl); (with_reducible assumption); (eq_refl); (eq_refl); (eq_refl); rotate_left; (decide); (decide); (decide); (exact star_cons rfl); (eq_refl))
  | ((with_reducible show GI _ _ _ (Expr.Name "_law_due" _) _ _); (with_reducible refine gi_str ?_))
  | ((with_reducible show GE _ _ (Expr.Call (Expr.Name "winners" _) [] [_, _] _) _ _); (with_reducible apply ge_callR); (case F => with_reducible assumption); (exact ⟨rfl, rfl, rfl, rfl, rfl⟩); (first | with_reducible assumption | exact Bod.toCxt (by with_reducible assumption) | exact Cxt.blk (Bod.toCxt (by with_reducible assumption)) _ _ _ _ _ _); (eq_refl); (eq_refl); (first | with_reducible assumption | exact Exc.none); rotate_left; (decide); (eq_refl); (eq_refl); (eq_refl); (eq_refl))
  | ((with_reducible show GF _ _ (Expr.Call (Expr.Name "sorted" _) [_] _ _) _ _); (with_reducible apply gf_sortS); (eq_refl); (eq_refl); (exact Gls.sorted (by assumption)); rotate_left; (exact star_cons rfl))
  | ((with_reducible show G1 _ _ (Stmt.For _ _ _ _ _) _ _); (with_reducible apply g1_for); (with_reducible assumption); rotate_left; (intro _; eq_refl))
  | ((with_reducible show GE _ _ (Expr.Call (Expr.Attribute (Expr.Constant _ _ _) "index" _) [_] _ _) _ _); (with_reducible apply ge_sindex); (eq_refl); rotate_left; (eq_refl); (eq_refl); (eq_refl); (exact star_cons rfl))
  | ((with_reducible show ∀ B0 : Bas, Same _ _ → _); intro _ _ _)
  | ((with_reducible show ∃ k0 : Int, _ = PyData.int k0 ∧ (0 ≤ k0 ∧ k0 ≤ 1000) ∧ _); refine ⟨_, rfl, ⟨by first | decide | omega, by first | decide | omega⟩, Nat.le_of_ble_eq_true rfl, ?_⟩)
  | ((with_reducible show ∀ a0 : Addr, Alone _ a0 → _); intro _ _)
  )
section
variable {P : Program} {w : World} {K : PySem.W.Frag} {mg : Str → Option Value} {base : Heap}
def preRef (ps ds : List PyData) : Prop := Well ps ∧ ∃ xs : List PyData, ds = [.tuple xs] ∧ profB (.tuple xs) = true
def RTrue (ps ds : List PyData) (o : Out) (ps' : List PyData) : Prop := Well ps' ∧ o = .ok (.bool true)
theorem nats_prof {xs : List PyData} {n : Int} (N : Nats 6 n xs) (h1 : 1 ≤ n) (h2 : n ≤ 60) : profB (.tuple xs) = true := by
  have a : xs.all natB = true := List.all_eq_true.mpr fun d hd => by
    obtain ⟨i, hi, e⟩ := List.getElem_of_mem hd
    have q := N.nat i (by rw [← N.len]; exact hi)
    have : nth xs i = d := nth_at (by rw [List.getElem?_eq_getElem hi, e])
    rw [this] at q
    rw [q.1]
    exact decide_eq_true q.2
  show (decide ((xs.length : Int) = 6) && xs.all natB && (decide (1 ≤ (xs.map asI).sum) && decide ((xs.map asI).sum ≤ 60))) = true
  rw [a, N.sum, N.len, decide_eq_true h1, decide_eq_true h2] <;> rfl
theorem six_nats {xs : List PyData} {n : Int} (N : Nats 6 n xs) : ∃ x0 x1 x2 x3 x4 x5 : Int, xs = [.int x0, .int x1, .int x2, .int x3, .int x4, .int x5] := by
  refine six_ints N.len (List.all_eq_true.mpr fun d hd => ?_)
  obtain ⟨i, hi, e⟩ := List.getElem_of_mem hd
  have q := N.nat i (by rw [← N.len]; exact hi)
  have : nth xs i = d := nth_at (by rw [List.getElem?_eq_getElem hi, e])
  rw [this] at q
  rw [q.1] <;> rfl
theorem win_ok {CP CR : Addr} {xs : List PyData} {r : Str} (hP : profB (.tuple xs) = true) (hr : r ∈ rules) : winO CP CR [.tuple xs, .str r] = .ok (.str (Txt.join "" (winS xs r))) := by
  have h2 : ruleB (.str r) = true := List.any_eq_true.mpr ⟨r, hr, decide_eq_true rfl⟩
  show (if profB (.tuple xs) = true then (if ruleB (.str r) = true then _ else _) else _) = _
  rw [if_pos hP, if_pos h2]
theorem win_good (xs : List PyData) (r : Str) : Good (.list [.str (Txt.join "" (winS xs r)), .str (Txt.join "" (winS xs r))]) := by
  rw [win_pick]
  generalize qW r xs 0 = a
  generalize qW r xs 1 = b
  generalize qW r xs 2 = c
  refine GN.good (n := 100) (k := 1) ?_ (by decide) (by decide)
  cases a <;> cases b <;> cases c <;> decide +kernel
theorem led_prof {x0 x1 x2 x3 x4 x5 : Int} {t : Nat} (ht : t < 5) (hP : profB (.tuple [.int x0, .int x1, .int x2, .int x3, .int x4, .int x5]) = true) : profB (.tuple (ledF t [.int x0, .int x1, .int x2, .int x3, .int x4, .int x5] 6)) = true := by
  have hP : (decide ((6 : Int) = 6) && (decide (0 ≤ x0) && (decide (0 ≤ x1) && (decide (0 ≤ x2) && (decide (0 ≤ x3) && (decide (0 ≤ x4) && (decide (0 ≤ x5) && true)))))) && (decide (1 ≤ x0 + (x1 + (x2 + (x3 + (x4 + (x5 + 0)))))) && decide (x0 + (x1 + (x2 + (x3 + (x4 + (x5 + 0))))) ≤ 60))) = true := hP
  simp only [Bool.and_eq_true, decide_eq_true_eq] at hP
  match t, ht with
  | 0, _ =>
    rw [led_0]
    show (decide ((6 : Int) = 6) && (decide (0 ≤ x1) && (decide (0 ≤ x0) && (decide (0 ≤ x4) && (decide (0 ≤ x5) && (decide (0 ≤ x2) && (decide (0 ≤ x3) && true)))))) && (decide (1 ≤ (x1 + (x0 + (x4 + (x5 + (x2 + (x3 + 0))))))) && decide ((x1 + (x0 + (x4 + (x5 + (x2 + (x3 + 0)))))) ≤ 60))) = true
    simp only [Bool.and_eq_true, decide_eq_true_eq, eq_self, and_true, true_and]
    omega
  | 1, _ =>
    rw [led_1]
    show (decide ((6 : Int) = 6) && (decide (0 ≤ x2) && (decide (0 ≤ x3) && (decide (0 ≤ x0) && (decide (0 ≤ x1) && (decide (0 ≤ x5) && (decide (0 ≤ x4) && true)))))) && (decide (1 ≤ (x2 + (x3 + (x0 + (x1 + (x5 + (x4 + 0))))))) && decide ((x2 + (x3 + (x0 + (x1 + (x5 + (x4 + 0)))))) ≤ 60))) = true
    simp only [Bool.and_eq_true, decide_eq_true_eq, eq_self, and_true, true_and]
    omega
  | 2, _ =>
    rw [led_2]
    show (decide ((6 : Int) = 6) && (decide (0 ≤ x4) && (decide (0 ≤ x5) && (decide (0 ≤ x1) && (decide (0 ≤ x0) && (decide (0 ≤ x3) && (decide (0 ≤ x2) && true)))))) && (decide (1 ≤ (x4 + (x5 + (x1 + (x0 + (x3 + (x2 + 0))))))) && decide ((x4 + (x5 + (x1 + (x0 + (x3 + (x2 + 0)))))) ≤ 60))) = true
    simp only [Bool.and_eq_true, decide_eq_true_eq, eq_self, and_true, true_and]
    omega
  | 3, _ =>
    rw [led_3]
    show (decide ((6 : Int) = 6) && (decide (0 ≤ x3) && (decide (0 ≤ x2) && (decide (0 ≤ x5) && (decide (0 ≤ x4) && (decide (0 ≤ x0) && (decide (0 ≤ x1) && true)))))) && (decide (1 ≤ (x3 + (x2 + (x5 + (x4 + (x0 + (x1 + 0))))))) && decide ((x3 + (x2 + (x5 + (x4 + (x0 + (x1 + 0)))))) ≤ 60))) = true
    simp only [Bool.and_eq_true, decide_eq_true_eq, eq_self, and_true, true_and]
    omega
  | 4, _ =>
    rw [led_4]
    show (decide ((6 : Int) = 6) && (decide (0 ≤ x5) && (decide (0 ≤ x4) && (decide (0 ≤ x3) && (decide (0 ≤ x2) && (decide (0 ≤ x1) && (decide (0 ≤ x0) && true)))))) && (decide (1 ≤ (x5 + (x4 + (x3 + (x2 + (x1 + (x0 + 0))))))) && decide ((x5 + (x4 + (x3 + (x2 + (x1 + (x0 + 0)))))) ≤ 60))) = true
    simp only [Bool.and_eq_true, decide_eq_true_eq, eq_self, and_true, true_and]
    omega
theorem sc_lright : FnScope ["_law_well_here", "_law_turn", "_law_profile_here", "_law_names_now", "_law_led_here", "_law_rule", "_law_due", "_law_name"] ["_law_well_here"] (defScope s_lright) := ⟨rfl, rfl, rfl, by decide +kernel, rfl, by decide +kernel, by decide +kernel⟩
theorem ok_right {CP CR : Addr} {T : List (Addr × Str)} (F1 : Call P w K mg base (L2.CX P w) 2 "_law_of" ["_law_well_here", "_law_menu"] (spP 1 preOf ROf)) (F2 : Call P w K mg base (L2.CX P w) 2 "_law_profile" ["_law_well_here"] (spP 0 (fun ps _ => Well ps) RProf))
    (F3 : Call P w K mg base (L2.CX P w) 1 "_law_led" ["_law_profile_here", "_law_names_now"] (spF 2 preLed fun ds => .ok (ledD ds))) (F4 : Call P w K mg base (L2.CX P w) 2 "_law_won" ["_law_profile_here", "_law_rule"] (spF 2 preWon fun ds => .ok (wonD ds)))
    (F5 : Call P w K mg base (L2.CX P w) 5 "winners" ["profile", "rule"] (spF 2 (fun _ => True) fun ds => winO CP CR ds)) (F6 : CallR P w K mg base (L2.CX P w) 5 "winners" ["profile", "rule"] (spF 2 (fun _ => True) fun ds => winO CP CR ds) ["rule", "profile"])
    (F7 : Call P w K mg base (L2.CX P w) 9 "_law_refused_right" ["_law_well_here", "_law_profile_here"] (spT 1 preRef RTrue T))
    {f : Addr} {fd : FuncData} (F : Fun K "_law_right" "_law_right" s_lright f fd) (sm : ∃ o, K.lookup sysModules = some o) (B : Gls mg) :
    FnG P w K mg base (L2.CX P w) 10 f fd ["_law_well_here"] (spT 0 (fun ps _ => Well ps) RTrue T) := by
  refine fn_pailT T F sc_lright sm rfl _ _ fun cdv A outer s H E Bs ad ms ds hl hw hT hB c ex => ?_
  have nd := sc_lright.nd
  obtain rfl : ds = [] := List.eq_nil_of_length_eq_zero hl
  refine gs_cons ?_
  repeat infer_instance
  refine ⟨by decide, by decide, fun i Γ => ∃ (ms : List PyData) (s1 s2 s3 s4 s5 s6 s7 : Sl), Γ = [.own ad ms, s1, s2, s3, s4, s5, s6, s7] ∧ Well ms, ⟨ms, _, _, _, _, _, _, _, rfl, hw⟩, fun _ _ _ _ => trivial, ?_, ?_⟩
  · rintro i Γ hi ⟨ms, s1, s2, s3, s4, s5, s6, s7, rfl, hw⟩
    repeat infer_instance
    refine ⟨hw, fun o ms1 hR => ?_⟩
    clear hw
    obtain ⟨hw, xs, n, rfl, hN, n1, n2⟩ := hR
    have hP := nats_prof hN n1 n2
    refine to_ok ?_
    repeat infer_instance
    refine ⟨⟨hw, _, rfl, by decide, by decide⟩, fun o ms2 hR => ?_⟩
    clear hw
    obtain ⟨hw, ys, d, e, hd, rfl⟩ := hR
    cases e
    refine to_ok ?_
    have ht : ∃ t, t < 5 ∧ d = .str (exN t) := by
      simp only [List.mem_cons, List.not_mem_nil, or_false] at hd
      rcases hd with rfl | rfl | rfl | rfl | rfl
      · exact ⟨0, by decide, rfl⟩
      · exact ⟨1, by decide, rfl⟩
      · exact ⟨2, by decide, rfl⟩
      · exact ⟨3, by decide, rfl⟩
      · exact ⟨4, by decide, rfl⟩
    obtain ⟨t, ht, rfl⟩ := ht
    obtain ⟨x0, x1, x2, x3, x4, x5, rfl⟩ := six_nats hN
    have hA : ([.int x0, .int x1, .int x2, .int x3, .int x4, .int x5] : List PyData).all isI = true := rfl
    repeat infer_instance
    refine ⟨⟨_, t, rfl, rfl, hA, ht⟩, ?_⟩
    rw [led_eq ht]
    repeat infer_instance
    refine ⟨fun j Γ => ∃ (s1 s5 s6 s7 : Sl), Γ = [.own ad ms2, s1, .d (.tuple [.int x0, .int x1, .int x2, .int x3, .int x4, .int x5]), .d (.str (exN t)), .d (.tuple (ledF t [.int x0, .int x1, .int x2, .int x3, .int x4, .int x5] 6)), s5, s6, s7], ⟨_, _, _, _, rfl⟩, fun _ _ _ _ => trivial, ?_, ?_⟩
    · rintro j Γ hj ⟨s1, s5, s6, s7, rfl⟩
      have hr : ∃ r : Str, nth [.str "firsts", .str "lasts", .str "points", .str "pairs"] j = .str r ∧ r ∈ rules := by
        match j, hj with
        | 0, _ => exact ⟨_, rfl, .head _⟩
        | 1, _ => exact ⟨_, rfl, .tail _ (.head _)⟩
        | 2, _ => exact ⟨_, rfl, .tail _ (.tail _ (.head _))⟩
        | 3, _ => exact ⟨_, rfl, .tail _ (.tail _ (.tail _ (.head _)))⟩
      obtain ⟨r, er, hr⟩ := hr
      show GG _ _ _ (nth [.str "firsts", .str "lasts", .str "points", .str "pairs"] j) _ _
      rw [er]
      repeat infer_instance
      refine ⟨⟨_, r, rfl, rfl, hA, hr⟩, ?_⟩
      show (Out.ok (.str (Txt.join "" (winS [.int x0, .int x1, .int x2, .int x3, .int x4, .int x5] r)))).to _ _
      repeat infer_instance
      have gd : Good (.list [.str (Txt.join "" (winS [.int x0, .int x1, .int x2, .int x3, .int x4, .int x5] r)), .str (Txt.join "" (winS [.int x0, .int x1, .int x2, .int x3, .int x4, .int x5] r))]) := win_good _ _
      rw [win_ok hP hr]
      repeat infer_instance
      rw [win_ok hP hr]
      repeat infer_instance
      refine ⟨gd, ?_⟩
      repeat infer_instance
      refine ⟨gd, ?_⟩
      repeat infer_instance
      rw [if_neg (by rw [eqv_str, decide_eq_true rfl] <;> decide)]
      repeat (with_reducible refine gs_nil ?_)
      refine gs_cons ?_
      repeat infer_instance
      rw [win_ok (led_prof ht hP) hr]
      repeat infer_instance
      have ez : Txt.join "" (winS [.int x0, .int x1, .int x2, .int x3, .int x4, .int x5] r) = dueT (pick3 (qW r [.int x0, .int x1, .int x2, .int x3, .int x4, .int x5] 0) (qW r [.int x0, .int x1, .int x2, .int x3, .int x4, .int x5] 1) (qW r [.int x0, .int x1, .int x2, .int x3, .int x4, .int x5] 2)) := by
        rw [win_pick] <;> rfl
      rw [ez]
      have du := due3 (qW r [.int x0, .int x1, .int x2, .int x3, .int x4, .int x5] 0) (qW r [.int x0, .int x1, .int x2, .int x3, .int x4, .int x5] 1) (qW r [.int x0, .int x1, .int x2, .int x3, .int x4, .int x5] 2)
      have l3 := pick3_len (qW r [.int x0, .int x1, .int x2, .int x3, .int x4, .int x5] 0) (qW r [.int x0, .int x1, .int x2, .int x3, .int x4, .int x5] 1) (qW r [.int x0, .int x1, .int x2, .int x3, .int x4, .int x5] 2)
      have ws := fun ys pm so => won_sorted r (x0 := x0) (x1 := x1) (x2 := x2) (x3 := x3) (x4 := x4) (x5 := x5) (ys := ys) ht pm so
      have es := ex_short t (qW r [.int x0, .int x1, .int x2, .int x3, .int x4, .int x5] 0) (qW r [.int x0, .int x1, .int x2, .int x3, .int x4, .int x5] 1) (qW r [.int x0, .int x1, .int x2, .int x3, .int x4, .int x5] 2)
      generalize pick3 (qW r [.int x0, .int x1, .int x2, .int x3, .int x4, .int x5] 0) (qW r [.int x0, .int x1, .int x2, .int x3, .int x4, .int x5] 1) (qW r [.int x0, .int x1, .int x2, .int x3, .int x4, .int x5] 2) = L at du l3 ws es ⊢
      ((with_reducible apply gf_lk); (eq_refl); (assumption); (eq_refl); (eq_refl); (eq_refl); (intro _; eq_refl))
      repeat infer_instance
      rw [du.1]
      refine ⟨Nat.le_trans l3 (by decide), fun _ => true, fun i => .str (sgn (exN t) (L.getD i 9)), fun i hi B' => ?_, ?_⟩
      · have h3 := du.2 i (by omega) hi
        repeat infer_instance
        refine ⟨_, _, rfl, h3.1, ?_⟩
        repeat infer_instance
        refine ix_s (show (exN t).cps.size ≤ sizeLine by rw [ex_size ht]; decide) (by rw [ex_size ht]; exact h3.2) ?_
        repeat infer_instance
        all_goals exact ⟨rfl, rfl⟩
      refine ⟨exL t L, by unfold exL; rw [List.map_map] <;> rfl, es, fun ys pm so => ?_⟩
      obtain rfl := ws ys pm so
      repeat infer_instance
      refine ⟨_, .inl rfl, win_short _ _, ?_⟩
      repeat infer_instance
      rw [if_neg (by rw [eqv_str, decide_eq_true rfl] <;> decide)]
      repeat (with_reducible refine gs_nil ?_)
      exact ⟨_, _, _, _, rfl⟩
    rintro Γ ⟨s1, s5, s6, s7, rfl⟩
    show Gs _ _ _ _ _
    refine gs_cons ?_
    repeat infer_instance
    refine ⟨⟨hw, _, rfl, hP⟩, fun o ms3 hR => ?_⟩
    clear hw
    obtain ⟨hw, rfl⟩ := hR
    refine to_ok ?_
    repeat infer_instance
    repeat (with_reducible refine gs_nil ?_)
    exact ⟨_, _, _, _, _, _, _, _, rfl, hw⟩
  rintro Γ ⟨ms, s1, s2, s3, s4, s5, s6, s7, rfl, hw⟩
  refine gs_cons ?_
  repeat infer_instance
  exact ⟨hw, rfl⟩
end
end K75
namespace K75
open PySem PySem.Spec PyProof.Rows L2 Tc Px Py
section
variable {P : Program} {w : World} {K : PySem.W.Frag} {mg : Str → Option Value} {base : Heap}
theorem sc_lwell : FnScope ["_law_script", "_law_k", "_law_own", "_law_mixed", "_law_each"] ["_law_script", "_law_k"] (defScope s_lwell) := ⟨rfl, rfl, rfl, by decide +kernel, rfl, by decide +kernel, by decide +kernel⟩
theorem g_lwell : ∀ x ∈ (["int", "len", "abs"] : List Str), (defScope s_lwell).names.lookup x = some .globalImplicit := by decide +kernel
def spWell (K : PySem.W.Frag) : Sp := fun vs H Q _ => ∃ (a : Addr) (ns : List Int) (k : Nat), vs = [.ref a, .int k] ∧ k < 5 ∧ SqL K H a (ns.map V.int) ∧ ns.length ≤ 63 ∧
  ∀ (H' : Hp) (p : Addr), H p = none → Same H H' → (∃ x y : Int, H' p = some (.lst [.int x, .int y, .int 0]) ∧ 0 ≤ x ∧ 0 ≤ y ∧ y < 2147483423) → Q (.ref p) H'
theorem mem_of_cut {ns : List Int} {lo hi : Option Int} {o : Int} {i : Nat} {y : V} (h : (cutV (ns.map V.int) lo hi ++ [V.int o])[i]? = some y) : ∃ z, y = V.int z := by
  have m : y ∈ cutV (ns.map V.int) lo hi ++ [V.int o] := List.mem_of_getElem? h
  rcases List.mem_append.mp m with m | m
  · have m2 := List.mem_of_mem_drop (List.mem_of_mem_take m)
    obtain ⟨z, _, e⟩ := List.mem_map.mp m2
    exact ⟨z, e.symm⟩
  · exact ⟨o, List.mem_singleton.mp m⟩
theorem ok_well {f : Addr} {fd : FuncData} (F : Fun K "_law_well" "_law_well" s_lwell f fd) (B : Gls mg) :
    FnOk P w K mg base CX0 1 f fd ["_law_script", "_law_k"] (spWell K) := by
  refine F.ok sc_lwell (fun vs H Q E h => ?_) (fun cdv A outer s H vs Q E hr h => ?_)
  · obtain ⟨a, ns, k, rfl, _⟩ := h
    rfl
  · obtain ⟨a, ns, k, rfl, hk, hS, hlen, hQ⟩ := h
    refine ⟨_, pss_mid (ps_set (i := 2) sc_lwell.nd rfl (.inl rfl) (pe_ifExp (pt_cmpR op_lt (pv 1) (pe_callB call_len (g_lwell _ (.tail _ (.head _))) B.len (by decide +kernel) (pa_cons (pv 0) pa_nil)) (nomark _))
        (pe_callTy call_int1 (g_lwell _ (.head _)) B.int (by decide +kernel) (pa_cons (pe_ix ix_list (pv 0) (pv 1) (fun _ _ => rfl)) pa_nil)) (pe_op op_add (pe_op op_mul pe_int (pv 1)) pe_int)))
      (pss_cons (ps_set (i := 3) sc_lwell.nd rfl (.inl rfl) (pe_op op_add pe_int (pe_op op_mul pe_int (pv 1))))
      (pss_cons (ps_for PassesOwn.never rfl (pi_list (pe_op op_cat (pe_slice sl_list (pv 0) po_none (po_some pe_int)) (pe_lst (pa_cons (pv 2) pa_nil)))) (pg_name (i := 4) sc_lwell.nd rfl (.inl rfl))
        (pss_one (ps_set (i := 3) sc_lwell.nd rfl (.inl rfl) (pe_op op_mod (pe_callTy call_int1 (g_lwell _ (.head _)) B.int (by decide +kernel)
          (pa_cons (pe_op op_add (pe_op op_mul (pv 3) pe_int) (pe_callTy call_int1 (g_lwell _ (.head _)) B.int (by decide +kernel) (pa_cons (pv 4) pa_nil))) pa_nil)) pe_int))))
      (pss_one (ps_ret (pe_lst (pa_cons (pe_ifExp (PW.pt (pw_or (pt_cmpR op_lt (pv 2) pe_int (nomark _)) (pw_or1 (pt_cmpR op_ge (pv 2) (pe_op op_pow pe_int pe_int) (nomark _)))))
        (pe_callB call_abs (g_lwell _ (.tail _ (.tail _ (.head _)))) B.abs (by decide +kernel) (pa_cons (pv 2) pa_nil)) pe_int) (pa_cons (pv 3) (pa_cons pe_int pa_nil)))))))), ?_⟩
    refine ⟨fun σ' H' => H' = H ∧ ∃ z : Int, σ' = [some (.ref a), some (.int k), some (.int z), none, none], ?_, ?_⟩
    · refine ⟨_, rfl, _, rfl, _, _, rfl, .inl ⟨_, hS, rfl⟩, _, _, rfl, rfl, _, rfl, ?_⟩
      refine ite2 (fun hc => ?_) (fun _ => ?_)
      · rw [List.length_map] at hc
        have hk2 : k < ns.length := by have := of_decide_eq_true hc; omega
        have hat : atI (ns.map V.int) (k : Int) = some (V.int ns[k]) := atI_nat (by simp [hk2])
        exact ⟨_, rfl, _, rfl, a, _, _, _, rfl, rfl, hS, hat, .inl ⟨_, rfl, rfl, _, rfl⟩⟩
      · exact ⟨_, rfl, _, _, rfl, rfl, .inl ⟨by decide, by decide⟩, _, _, rfl, rfl, rfl, _, rfl⟩
    rintro σ' H' ⟨rfl, z, rfl⟩
    refine ⟨_, rfl, _, _, rfl, rfl, .inl ⟨by decide, by decide⟩, _, _, rfl, rfl, ?_⟩
    refine ⟨_, rfl, _, rfl, a, _, rfl, hS, fun p hp => ?_⟩
    refine ⟨_, rfl, (show 1 ≤ sizeLine by decide), fun p2 hp2 => ?_⟩
    have n12 : p ≠ p2 := fun e => by rw [← e, upd_same] at hp2; cases hp2
    have lc : (cutV (ns.map V.int) none (some 40)).length ≤ 63 := by
      unfold cutV
      rw [List.length_take, List.length_drop, List.length_map]
      omega
    refine ⟨p, p2, _, _, rfl, rfl, (upd_ne n12).trans upd_same, upd_same, Nat.le_trans (show _ + 1 ≤ 64 by omega) (by decide), fun p3 hp3 => ?_⟩
    have s0 : Same H' (upd (upd (upd H' p (.lst (cutV (ns.map V.int) none (some 40)))) p2 (.lst [V.int z])) p3 (.lst (cutV (ns.map V.int) none (some 40) ++ [V.int z]))) := (Same.new hp).trans ((Same.new hp2).trans (Same.new hp3))
    generalize hU : upd (upd (upd H' p (.lst (cutV (ns.map V.int) none (some 40)))) p2 (.lst [V.int z])) p3 (.lst (cutV (ns.map V.int) none (some 40) ++ [V.int z])) = U at s0 ⊢
    have hl : U p3 = some (.lst (cutV (ns.map V.int) none (some 40) ++ [V.int z])) := by rw [← hU]; exact upd_same
    refine ⟨p3, rfl, ⟨_, .inl (.inl hl)⟩, for_list (K := K) (a := p3) (xs := cutV (ns.map V.int) none (some 40) ++ [V.int z])
      (fun _ σ H2 => ∃ (mixed : Int) (v : Option V), σ = [some (.ref a), some (.int k), some (.int z), some (.int mixed), v] ∧
        Same U H2 ∧ 0 ≤ mixed ∧ mixed < 2147483423)
      ⟨_, none, rfl, Same.refl _, by omega, by omega⟩ (fun _ _ _ _ ⟨_, _, _, s2, _⟩ => .inl (.inl (s2 _ _ hl))) ?_ ?_⟩
    · rintro i y σ H2 hi ⟨mixed, v, rfl, s2, h0, h1⟩
      obtain ⟨e, rfl⟩ := mem_of_cut hi
      refine ⟨_, rfl, _, _, rfl, rfl, .inr ⟨by decide, by decide⟩, _, rfl, .inl ⟨_, rfl, _, _, rfl, rfl, .inl ⟨_, rfl, _, _, rfl, rfl, ?_, ?_⟩⟩⟩
      · show (0 : Int) < 2147483423
        decide
      · exact ⟨_, _, rfl, s2, Int.emod_nonneg _ (by decide), Int.emod_lt_of_pos _ (by decide)⟩
    · rintro σ H2 ⟨mixed, v, rfl, s2, h0, h1⟩
      have s3 : Same H' H2 := s0.trans s2
      have absd : ∀ z : Int, 0 ≤ (if z < 0 then -z else z) := fun z => by split <;> omega
      have fin : ∀ d : Int, 0 ≤ d → ∀ p2, H2 p2 = none → Q (.ref p2) (upd H2 p2 (.lst [V.int d, V.int mixed, V.int 0])) := fun d hd p2 hp2 => hQ _ p2 (s3.free hp2) (s3.trans (Same.new hp2)) ⟨d, mixed, upd_same, hd, h0, h1⟩
      refine ⟨_, rfl, _, _, rfl, rfl, _, rfl, ?_⟩
      refine ite2 (fun _ => ?_) (fun _ => ?_)
      · exact ⟨_, rfl, _, rfl, _, rfl, (show 3 ≤ sizeLine by decide), fin _ (absd _)⟩
      · refine ⟨_, rfl, _, _, rfl, rfl, ⟨by decide, by decide, by decide⟩, _, _, rfl, rfl, _, rfl, ?_⟩
        refine ite2 (fun _ => ?_) (fun _ => ?_)
        · exact ⟨_, rfl, _, rfl, _, rfl, (show 3 ≤ sizeLine by decide), fin _ (absd _)⟩
        · exact ⟨_, rfl, (show 3 ≤ sizeLine by decide), fin 0 (by decide)⟩
end
end K75
namespace K75
open PySem PySem.Spec PyProof.Rows L2 Tc Px Py
open LamX (Tabs TabB ExtN TabS)
section
variable {P : Program} {w : World} {K : PySem.W.Frag} {mg : Str → Option Value} {base : Heap}
theorem sc_law : FnScope ["_law_script", "_law_k"] ["_law_script"] (defScope s_law) := ⟨rfl, rfl, rfl, by decide +kernel, rfl, by decide +kernel, by decide +kernel⟩
theorem g_law : ∀ x ∈ (["all", "range"] : List Str), (defScope s_law).names.lookup x = some .globalImplicit := by decide +kernel
def spLaw (K : PySem.W.Frag) (T : List (Addr × Str)) : Sp := fun vs H Q _ => ∃ (a : Addr) (ns : List Int), vs = [.ref a] ∧ SqL K H a (ns.map V.int) ∧ ns.length ≤ 63 ∧ Tabs T H ∧ ∀ H', Q (.bl true) H'
theorem sq_ext {H H' : Hp} {a : Addr} {xs : List V} (x : ExtN H H') (h : SqL K H a xs) : SqL K H' a xs := by
  rcases h with (h | ⟨o, h⟩) | h
  · exact .inl (.inl (x _ _ h (fun _ z => nomatch z)))
  · exact .inl (.inr ⟨o, x _ _ h (fun _ z => nomatch z)⟩)
  · exact .inr h
theorem passF {X : Cx} : Passes (L2.CX X.prog X.w) X (fun _ _ _ => False) := fun pins σ => pass_never (σ := σ) pins
theorem ok_law {f : Addr} {fd : FuncData} {T : List (Addr × Str)} (F : Fun K "law" "law" s_law f fd) (B : Gls mg)
    (DJ : Call P w K mg base CX0 1 "_law_well" ["_law_script", "_law_k"] (spWell K)) (DR : Call P w K mg base (L2.CX P w) 10 "_law_right" ["_law_well_here"] (spT 0 (fun ps _ => Well ps) RTrue T)) :
    FnG P w K mg base CX0 11 f fd ["_law_script"] (spLaw K T) := by
  refine Fun.okG F sc_law (fun vs H Q E h => ?_) (fun cdv A outer s H vs Q E hr hgd h => ?_)
  · obtain ⟨a, ns, rfl, _⟩ := h
    rfl
  · obtain ⟨a, ns, rfl, hS, hl, hT, hQ⟩ := h
    refine ⟨_, pss_one (ps_ret (pe_callB (cr_all rfl) (g_law _ (.head _)) B.all (by decide +kernel) (pa_cons
      (pe_lc (own := [("_law_k", 1)]) (g := gName 1) (te := tCall (spT 0 (fun ps _ => Well ps) RTrue T) [] (fun _ _ _ => False) (tCons (tCall (spWell K) [] (fun _ _ _ => False) (tCons (tVar 0) (tCons (tVar 1) tNil))) tNil)) rfl sc_law.nd
        (pi_range1 (g_law _ (.tail _ (.head _))) B.range (pa_cons pe_int pa_nil))
        (blkOk_by (own := [("_law_k", 1)]) (N := ["_law_script", "_law_k"]) (sc := defScope s_law) (by decide +kernel)) (fun _ _ _ _ _ => pg_name (i := 1) sc_law.nd rfl (.inl rfl)) (fun _ _ _ _ _ => pts_nil)
        (fun _ _ _ _ _ => pe_do DR (hr.mono (by decide)) hgd (by rfl) passF (pa_cons (pe_do DJ (hr.mono (by decide)) hgd (by rfl) pass0 (pa_cons (pv 0) (pa_cons (pv 1) pa_nil))) pa_nil))) pa_nil))), ?_⟩
    refine ⟨2, rfl, by omega, by omega, fun D hD => lc_range (lo := 0) (n := 2) (fun i H' => ExtN H H' ∧ Tabs T H' ∧ H' D = some (.lst ((List.replicate i true).map V.bl)))
      ⟨ExtN.of (Same.new hD), hT.ext (Same.new hD), upd_same⟩ (fun i H' hi p => ?_) (fun H' p => ?_)⟩
    · obtain ⟨x, t, hd⟩ := p
      refine ⟨rfl, _, rfl, _, rfl, a, ns, i, by show [V.ref a, V.int (0 + (i : Int))] = _; rw [Int.zero_add], by omega, sq_ext x hS, hl, fun H3 p hp s3 ⟨u, v, hj, u0, v0, v1⟩ => ?_⟩
      refine ⟨fun _ => none, p, _, [], [.int u, .int v, .int 0], [], rfl, fun _ _ z => (nomatch z), rfl, hj, .cons (.int _) (.cons (.int _) (.cons (.int _) .nil)), .nil, rfl, ⟨u, v, 0, rfl, u0, v0, v1⟩, ⟨t.ext s3, fun _ _ => rfl⟩, fun o ms' r v' Hs' H4 pv' k4 _ _ t4 _ _ => ?_⟩
      obtain ⟨_, rfl⟩ := r
      intro dv
      cases dv
      have pD : D ≠ p := ne_of_none hd hp
      have nt : ∀ {c : Addr} {o : HO}, H3 c = some o → (∀ ps, o ≠ .tbl ps) → ∀ p ∈ T, c ≠ p.1 := fun {c o} e n p hp z => by
        obtain ⟨ps, h1, _⟩ := t.ext s3 p hp
        rw [z, h1] at e
        exact n ps (Option.some.inj e).symm
      have hd3 := s3 _ _ hd
      have hd4 := k4 _ _ hd3 pD (nt hd3 fun _ z => nomatch z)
      have kk : ∀ b o, H4 b = some o → b ≠ D → upd H4 D (.lst ((List.replicate i true).map V.bl ++ [V.bl true])) b = some o := fun b o e n => (upd_ne n).trans e
      refine ⟨_, hd4, ?_, fun c o e nt' => kk c o (k4 c o (s3 _ _ (x c o e nt')) (ne_of_none (x c o e nt') hp) (nt (s3 _ _ (x c o e nt')) nt')) (fun z => by rw [z, hD] at e; cases e), tabs_keep t4.1 hd4 kk, ?_⟩
      · rw [List.length_map, List.length_replicate]
        exact Nat.lt_of_lt_of_le (show i < 4 by omega) (by decide)
      · rw [upd_same, List.replicate_succ', List.map_append] <;> rfl
    · obtain ⟨x, t, hd⟩ := p
      refine ⟨D, List.replicate 2 true, rfl, .inl (.inl hd), ?_⟩
      exact hQ H'
end
end K75
namespace K75
open PySem PySem.Spec PyProof.Rows L2 Tc Px
open Py
local macro_rules | `(tactic| infer_instance) => `(tactic| first
  | ((with_reducible show GE _ _ (Expr.BinOp (Expr.List _ _) Operator.Mult _ _) _ _); (with_reducible refine ge_ofF ?_); (with_reducible refine gf_rep ?_))
  | ((with_reducible show GE _ _ (Expr.Name _ _) _ _); (with_reducible apply name_vd); (eq_refl); (eq_refl); (eq_refl); (assumption); rotate_left; (decide); (decide))
  | (with_reducible refine gs_nil ?_)
  )
section
variable {P : Program} {w : World} {K : PySem.W.Frag} {mg : Str → Option Value} {base : Heap}
/-- values of any kind -/
def oddA : List PyData := [.none, .bool true, .bool false, .int 0, .int 1, .str "", .str "first", .str "Firsts", .str "firsts ", .str "point", .str "abc", .tuple [], .tuple [.int 1], .tuple [.int 1, .int 0, .int 0, .int 0, .int 0]]
def oddB : List PyData := [.list [], .list [.int 1, .int 0, .int 0, .int 0, .int 0, .int 0], .dict [], .tuple [.str "firsts"], .list [.str "pairs"], .tuple (List.replicate (6 : Int).toNat [.int 0]).flatten, .tuple [.int 61, .int 0, .int 0, .int 0, .int 0, .int 0]]
def ROdd (ps ds : List PyData) (o : Out) (ps' : List PyData) : Prop := Well ps' ∧ ∃ d : PyData, (d ∈ oddA ∨ d ∈ oddB) ∧ o = .ok d
theorem sc_lodd : FnScope ["_law_well_here", "_law_odd_here"] ["_law_well_here"] (defScope s_lodd) := ⟨rfl, rfl, rfl, by decide +kernel, rfl, by decide +kernel, by decide +kernel⟩
theorem ok_odd (F1 : Call P w K mg base (L2.CX P w) 2 "_law_of" ["_law_well_here", "_law_menu"] (spP 1 preOf ROf)) {f : Addr} {fd : FuncData} (F : Fun K "_law_odd" "_law_odd" s_lodd f fd) (sm : ∃ o, K.lookup sysModules = some o) (B : Gls mg) :
    FnG P w K mg base (L2.CX P w) 3 f fd ["_law_well_here"] (spP 0 (fun ps _ => Well ps) ROdd) := by
  refine fn_pail F sc_lodd sm rfl _ _ fun cdv A outer s H E Bs ad ms ds hl hp c ex => ?_
  have nd := sc_lodd.nd
  obtain rfl : ds = [] := List.eq_nil_of_length_eq_zero hl
  refine gs_cons ?_
  repeat infer_instance
  refine ⟨⟨hp, oddA ++ oddB, rfl, by decide, by decide⟩, fun o ms' hR => ?_⟩
  obtain ⟨hw, xs, d, e, hd, rfl⟩ := hR
  cases e
  refine to_ok ?_
  repeat infer_instance
  exact ⟨hw, d, List.mem_append.mp hd, rfl⟩
end
end K75
namespace K75
open PySem PySem.Spec PyProof.Rows L2 Tc Px
open Py
local macro_rules | `(tactic| infer_instance) => `(tactic| first
  | ((with_reducible show GE _ _ (Expr.Call (Expr.Name "isinstance" _) [Expr.Name _ _, Expr.Name _ _] _ _) _ _); (with_reducible apply isp_own); (case T => assumption); (eq_refl); (eq_refl); (with_reducible eq_refl); (eq_refl); (exact Gls.isinstance (by assumption)); (eq_refl); (eq_refl); (eq_refl); (eq_refl); (assumption); (assumption); rotate_left; (decide); (decide); (decide))
  | ((with_reducible show GE _ _ (Expr.Call (Expr.Name "isinstance" _) [Expr.Name _ _, Expr.Name _ _] _ _) _ _); (with_reducible apply isp_ty); (case T => assumption); (eq_refl); (eq_refl); (with_reducible eq_refl); (eq_refl); (exact Gls.isinstance (by assumption)); (eq_refl); (eq_refl); (eq_refl); (eq_refl); (assumption); (eq_refl); (assumption); rotate_left; (decide); (decide); (decide); (decide))
  | ((with_reducible show GE _ _ (Expr.Attribute (Expr.Name _ _) "given" _) _ _); (with_reducible apply given_p); (case T => assumption); (eq_refl); (eq_refl); (eq_refl); (eq_refl); (eq_refl); rotate_left; (decide); (decide); (eq_refl))
  | ((with_reducible show GE _ _ (Expr.Call (Expr.Attribute _ "count" _) [Expr.Constant (Const.bool true) _ _] _ _) _ _); (with_reducible apply ge_countB); rotate_left; (eq_refl); (eq_refl); (eq_refl); (eq_refl))
  | ((with_reducible show G1 _ _ (Stmt.Assign [Expr.Name _ _] _ _) _ _); (with_reducible apply set_u); (assumption); (eq_refl); (eq_refl); (eq_refl); rotate_left; (eq_refl))
  | ((with_reducible show GT _ _ (Expr.Compare _ [CmpOp.NotEq] _ _) _ _); (with_reducible apply gt_neU); (eq_refl); (assumption); (assumption))
  | (with_reducible refine gs_nil ?_)
  )
section
variable {P : Program} {w : World} {K : PySem.W.Frag} {mg : Str → Option Value} {base : Heap}
/-- what the law asks of the two classes of errors -/
structure Hx (K : PySem.W.Frag) (mg : Str → Option Value) (CP CR WV WN NP : Addr) : Prop where
  gp : mg "InvalidProfile" = some (.ref CP)
  gr : mg "InvalidRule" = some (.ref CR)
  wv : mg "WrongValue" = some (.ref WV)
  wn : mg "WrongName" = some (.ref WN)
  np : mg "NotPossible" = some (.ref NP)
  ve : mg "ValueError" = none
  le : mg "LookupError" = none
  ae : mg "ArithmeticError" = none
  exa : ∀ C, C = CP ∨ C = CR → ExA K C
  noF : ∀ C, C = CP ∨ C = CR → PySem.W.findIn K (.ref C) "given" = some none
  kp : ∀ C, C = CP ∨ C = CR → PySem.W.kitOne K (.ref C) (.ref CP) = some (decide (C = CP))
  kr : ∀ C, C = CP ∨ C = CR → PySem.W.kitOne K (.ref C) (.ref CR) = some (decide (C = CR))
  kwv : ∀ C, C = CP ∨ C = CR → PySem.W.kitOne K (.ref C) (.ref WV) = some true
  kwn : ∀ C, C = CP ∨ C = CR → PySem.W.kitOne K (.ref C) (.ref WN) = some false
  knp : ∀ C, C = CP ∨ C = CR → PySem.W.kitOne K (.ref C) (.ref NP) = some false
  kve : ∀ C, C = CP ∨ C = CR → PySem.W.kitOne K (.ref C) (.type "ValueError") = some true
  kle : ∀ C, C = CP ∨ C = CR → PySem.W.kitOne K (.ref C) (.type "LookupError") = some false
  kae : ∀ C, C = CP ∨ C = CR → PySem.W.kitOne K (.ref C) (.type "ArithmeticError") = some false
  caught : ∀ C, C = CP ∨ C = CR → PySem.W.exmAny K (.ref C) [.ref WV, .ref WN, .ref NP] = some true
  ne : CP ≠ CR
def kindW (CP C : Addr) : Str := if decide (C = CP) = true then "profile" else "rule"
def preWord (K : PySem.W.Frag) (CP CR : Addr) (pn : Pins) (F Hs : Hp) (a : Addr) (o : PyData) : Prop := ∃ (C : Addr) (d : PyData), ExP K pn F Hs a C d ∧ (C = CP ∨ C = CR) ∧ o = .list [.str (kindW CP C), d]
theorem sc_lword : FnScope ["_law_e", "_law_sorts", "_law_bases", "_law_plain"] ["_law_e"] (defScope s_lword) := ⟨rfl, rfl, rfl, by decide +kernel, rfl, by decide +kernel, by decide +kernel⟩
theorem ok_word {CP CR WV WN NP : Addr} (TH : Hx K mg CP CR WV WN NP) {f : Addr} {fd : FuncData} (F : Fun K "_law_word" "_law_word" s_lword f fd) (sm : ∃ o, K.lookup sysModules = some o) (B : Gls mg) :
    FnE P w K mg base 1 f fd ["_law_e"] (spE (preWord K CP CR)) := by
  refine fn_exc F sc_lword (by decide) _ fun cdv A outer s H E p Bs o hp un => ?_
  have nd := sc_lword.nd
  obtain ⟨C, d, T, hC, rfl⟩ := hp
  have g1 := TH.gp
  have g2 := TH.gr
  have g3 := TH.wv
  have g4 := TH.wn
  have g5 := TH.np
  have g6 := TH.ve
  have g7 := TH.le
  have g8 := TH.ae
  have k1 := TH.kp C hC
  have k2 := TH.kr C hC
  have k3 := TH.kwv C hC
  have k4 := TH.kwn C hC
  have k5 := TH.knp C hC
  have k6 := TH.kve C hC
  have k7 := TH.kle C hC
  have k8 := TH.kae C hC
  refine gs_cons ?_
  repeat infer_instance
  refine ⟨[decide (C = CP), decide (C = CR)], rfl, ?_⟩
  rw [show [decide (C = CP), decide (C = CR)].count true = 1 from by
    have ne := TH.ne
    rcases hC with rfl | rfl
    · rw [decide_eq_true rfl, decide_eq_false ne] <;> rfl
    · rw [decide_eq_false (fun z => ne z.symm), decide_eq_true rfl] <;> rfl]
  repeat infer_instance
  rw [show (!PyData.eqv (.int ((1 : Nat) : Int)) (.int 1)) = false from rfl]
  repeat infer_instance
  refine ⟨.inr ⟨rfl, rfl⟩, ?_⟩
  rw [show (!PyData.eqv (.list [.bool true, .bool false, .bool false]) (.list [.bool true, .bool false, .bool false])) = false from rfl]
  repeat infer_instance
  refine ⟨.inr ⟨rfl, rfl⟩, ?_⟩
  rw [show (!PyData.eqv (.list [.bool true, .bool false, .bool false]) (.list [.bool true, .bool false, .bool false])) = false from rfl]
  repeat infer_instance
  unfold kindW
  generalize decide (C = CP) = t
  cases t <;> (repeat infer_instance)
  all_goals exact rfl
end
end K75
namespace K75
open PySem PySem.Spec PyProof.Rows L2 Tc Px
open Py
local macro_rules | `(tactic| infer_instance) => `(tactic| first
  | ((with_reducible show GE _ _ (Expr.Call (Expr.Name "isinstance" _) [Expr.Name _ _, Expr.Name _ _] _ _) _ _); (with_reducible apply isp_own); (case T => assumption); (eq_refl); (eq_refl); (with_reducible eq_refl); (eq_refl); (exact Gls.isinstance (by assumption)); (eq_refl); (eq_refl); (eq_refl); (eq_refl); (assumption); (assumption); rotate_left; (decide); (decide); (decide))
  | ((with_reducible show GE _ _ (Expr.Call (Expr.Name "isinstance" _) [Expr.Name _ _, Expr.Name _ _] _ _) _ _); (with_reducible apply isp_ty); (case T => assumption); (eq_refl); (eq_refl); (with_reducible eq_refl); (eq_refl); (exact Gls.isinstance (by assumption)); (eq_refl); (eq_refl); (eq_refl); (eq_refl); (assumption); (eq_refl); (assumption); rotate_left; (decide); (decide); (decide); (decide))
  | ((with_reducible show GE _ _ (Expr.Attribute (Expr.Name _ _) "given" _) _ _); (with_reducible apply given_p); (case T => assumption); (eq_refl); (eq_refl); (eq_refl); (eq_refl); (eq_refl); rotate_left; (decide); (decide); (eq_refl))
  | ((with_reducible show GE _ _ (Expr.Call (Expr.Attribute _ "count" _) [Expr.Constant (Const.bool true) _ _] _ _) _ _); (with_reducible apply ge_countB); rotate_left; (eq_refl); (eq_refl); (eq_refl); (eq_refl))
  | ((with_reducible show G1 _ _ (Stmt.Assign [Expr.Name _ _] _ _) _ _); (with_reducible apply set_u); (assumption); (eq_refl); (eq_refl); (eq_refl); rotate_left; (eq_refl))
  | ((with_reducible show GT _ _ (Expr.Compare _ [CmpOp.NotEq] _ _) _ _); (with_reducible apply gt_neU); (eq_refl); (assumption); (assumption))
  | (with_reducible refine gs_nil ?_)
  )
section
variable {P : Program} {w : World} {K : PySem.W.Frag} {mg : Str → Option Value} {base : Heap}
def heardD (CP : Addr) : Out → PyData
  | .ok d => .list [.str "told", d]
  | .up C d => .list [.str (kindW CP C), d]
def preHeard (P : Program) (w : World) (K : PySem.W.Frag) (mg : Str → Option Value) (base : Heap) (CP CR : Addr) (F Hs : Hp) (vs : List V) (out : Out) : Prop :=
  ∃ (a : Addr) (o : Out), vs = [.ref a] ∧ ActS P w K mg base 6 F Hs a o ∧ (∀ C d, o = .up C d → C = CP ∨ C = CR) ∧ out = .ok (heardD CP o)
theorem sc_lheard : FnScope ["_law_act", "_law_came", "_law_e"] ["_law_act"] (defScope s_lheard) := ⟨rfl, rfl, rfl, by decide +kernel, rfl, by decide +kernel, by decide +kernel⟩
theorem ok_heard {CP CR WV WN NP : Addr} (TH : Hx K mg CP CR WV WN NP) (FW : CallE P w K mg base 1 "_law_word" ["_law_e"] (spE (preWord K CP CR))) {f : Addr} {fd : FuncData} (F : Fun K "_law_heard" "_law_heard" s_lheard f fd) (sm : ∃ o, K.lookup sysModules = some o) (B : Gls mg) :
    FnG P w K mg base (L2.CX P w) 7 f fd ["_law_act"] (spS 1 (preHeard P w K mg base CP CR)) := by
  refine fn_vals F sc_lheard sm (by decide) _ fun cdv A outer s H E Bs vs out hl hp c ex => ?_
  have nd := sc_lheard.nd
  obtain ⟨a, o, rfl, AC, hC, rfl⟩ := hp
  refine gs_cons (g1_tryW (i := 2) (k := 6) (j := 1) (ψ := fun C d Γ' => o = .up C d) c.toCxt rfl rfl nd rfl rfl rfl TH.wv rfl TH.wn rfl TH.np FW (by decide) rfl (.inl rfl) (fun Hs pn xe g po ex => ?_) (fun C d Γ' e => ?_) (by decide) (by decide) (by decide) (by decide) (by decide) (by decide) (fun _ _ => rfl))
  · refine gs_cons ?_
    refine set_u nd rfl (by rfl) (by rfl) ?_ (by rfl)
    refine act_e (k := 6) (AC.mono (Same.refl _) g) ⟨c.room, c.gd, c.sm⟩ rfl ex (by rfl) (by rfl) (by rfl) ?_ (by decide) (by decide)
    cases o with
    | ok d =>
      refine ⟨rfl, gs_nil ?_⟩
      refine gs_cons ?_
      repeat infer_instance
      exact rfl
    | up C d => exact rfl
  · subst e
    have h := hC C d rfl
    exact ⟨TH.caught C h, TH.exa C h, TH.noF C h, _, fun pn F Hs a T => ⟨C, d, T, h, rfl⟩, rfl⟩
end
end K75
namespace K75
open PySem PySem.Spec PyProof.Rows L2 Tc Px
open Py
local macro_rules | `(tactic| infer_instance) => `(tactic| first
  | ((with_reducible show GE _ _ (Expr.BinOp (Expr.List _ _) Operator.Mult _ _) _ _); (with_reducible refine ge_ofF ?_); (with_reducible refine gf_rep ?_))
  | ((with_reducible show GE _ _ (Expr.Name _ _) _ _); (with_reducible apply name_vd); (eq_refl); (eq_refl); (eq_refl); (assumption); rotate_left; (decide); (decide))
  | (with_reducible refine gs_nil ?_)
  )
section
variable {P : Program} {w : World} {K : PySem.W.Frag} {mg : Str → Option Value} {base : Heap}
def preEnd (P : Program) (w : World) (K : PySem.W.Frag) (mg : Str → Option Value) (base : Heap) (CP CR : Addr) (F Hs : Hp) (vs : List V) (out : Out) : Prop :=
  ∃ (L f1 f2 : Addr) (v2 : V) (o : Out), vs = [.ref L, v2] ∧ F L = some (.lst [.ref f1, .ref f2]) ∧ ActS P w K mg base 6 F Hs f1 o ∧ ActS P w K mg base 6 F Hs f2 o ∧ (∀ C d, o = .up C d → C = CP ∨ C = CR) ∧ GN 10000 50 (heardD CP o) ∧ Dv Hs v2 (heardD CP o) ∧ out = .ok (.bool true)
theorem sc_lall_end : FnScope ["_law_acts", "_law_due", "_law_act"] ["_law_acts", "_law_due"] (defScope s_lall_end) := ⟨rfl, rfl, rfl, by decide +kernel, rfl, by decide +kernel, by decide +kernel⟩
theorem ok_all_end {CP CR : Addr} (FH : Call P w K mg base (L2.CX P w) 7 "_law_heard" ["_law_act"] (spS 1 (preHeard P w K mg base CP CR))) {f : Addr} {fd : FuncData} (F : Fun K "_law_all_end" "_law_all_end" s_lall_end f fd) (sm : ∃ o, K.lookup sysModules = some o) (B : Gls mg) :
    FnG P w K mg base (L2.CX P w) 8 f fd ["_law_acts", "_law_due"] (spS 2 (preEnd P w K mg base CP CR)) := by
  refine fn_vals F sc_lall_end sm (by decide) _ fun cdv A outer s H E Bs vs out hl hp c ex => ?_
  have nd := sc_lall_end.nd
  obtain ⟨L, f1, f2, v2, o, rfl, hL, A1, A2, hC, gn, dv, rfl⟩ := hp
  have gd : Good (.list [heardD CP o, heardD CP o]) := (gn_list (n := 10000) (k := 50) (fun d hd => by
    have : d = heardD CP o := by simpa using hd
    rw [this]
    exact gn)).good (show 2 * (10000 + 2) + 2 ≤ 1000000 by decide) (by decide)
  refine gs_cons ?_
  repeat infer_instance
  refine gf_acts (N := ["_law_acts", "_law_due", "_law_act"]) (ix := 2) (iy := 0) (F := fun _ => heardD CP o) (vs := [.ref f1, .ref f2]) rfl nd rfl rfl rfl rfl rfl rfl hL (show 2 ≤ sizeLine by decide) rfl rfl (fun _ _ _ _ _ => rfl) ⟨fun i v hv B' sF g => ?_, ?_⟩ (by decide) (by decide) (fun _ _ _ _ _ => .inr rfl) (fun _ => rfl)
  · have one : ∃ f, v = .ref f ∧ ActS P w K mg base 6 Bs.fr Bs.hs f o := by
      match i, hv with
      | 0, hv => cases hv; exact ⟨f1, rfl, A1⟩
      | 1, hv => cases hv; exact ⟨f2, rfl, A2⟩
    obtain ⟨f0, rfl, AC⟩ := one
    intro s0 H0 C cl fp
    refine call_v (out := .ok (heardD CP o)) ⟨rfl, rfl, rfl, rfl, rfl⟩ FH (Cxt.blk (Bod.toCxt c) _ _ _ _ _ _) rfl rfl Exc.none rfl rfl rfl (fun H2 Hs2 s2 g2 => ⟨f0, o, rfl, (AC.mono sF g).mono s2 g2, hC, rfl⟩) ⟨rfl, rfl⟩ (by decide) (by decide) (by decide) rfl
  refine ⟨gd, ?_⟩
  repeat infer_instance
  intro B' sF g
  refine len_v rfl rfl B.len rfl rfl rfl (sF _ _ hL) ⟨2, rfl, ⟨by decide, by decide⟩, (show 1 ≤ 1000 by decide), ?_⟩ rfl (by decide) (by decide)
  repeat infer_instance
  refine ⟨gd, ?_⟩
  repeat infer_instance
  show Out.ok (.bool true) = Out.ok (.bool (decide _))
  exact congrArg (fun b => Out.ok (.bool b)) (decide_eq_true rfl).symm
end
end K75
namespace K75
open PySem PySem.Spec PyProof.Rows L2 Tc Px
open Py
local macro_rules | `(tactic| infer_instance) => `(tactic| first
  | ((with_reducible show GF _ _ (Expr.Call (Expr.Name "list" _) [_] _ _) _ _); (with_reducible apply gf_list1 false); (eq_refl); (eq_refl); (exact Gls.list (by assumption)); rotate_left; (exact star_cons rfl))
  | ((with_reducible show GE _ _ (Expr.BinOp (Expr.List _ _) Operator.Mult _ _) _ _); (with_reducible refine ge_ofF ?_); (with_reducible refine gf_rep ?_))
  | ((with_reducible show G1 _ _ (Stmt.Assign [Expr.Tuple [Expr.Name _ _, Expr.Name _ _] _ _] (Expr.Tuple _ _ _) _) _ _); (with_reducible apply par_n); (with_reducible assumption); (assumption); (eq_refl); (eq_refl); (eq_refl); (eq_refl); (eq_refl); (eq_refl); (eq_refl); (eq_refl))
  | ((with_reducible show GF _ _ (Expr.BinOp (Expr.List _ _) Operator.Mult _ _) _ _); (with_reducible refine gf_rep ?_))
  | ((with_reducible show GF _ _ (Expr.IfExp _ _ _ _) _ _); (with_reducible refine gf_if ?_))
  | ((with_reducible show ∀ B0 : Bas, Same _ _ → _); intro _ _ _)
  | ((with_reducible show ∃ k0 : Int, _ = PyData.int k0 ∧ (0 ≤ k0 ∧ k0 ≤ 1000) ∧ _); refine ⟨_, rfl, ⟨by first | decide | omega, by first | decide | omega⟩, Nat.le_of_ble_eq_true rfl, ?_⟩)
  | ((with_reducible show ∀ a0 : Addr, Alone _ a0 → _); intro _ _)
  )
section
variable {P : Program} {w : World} {K : PySem.W.Frag} {mg : Str → Option Value} {base : Heap}
theorem sc_lrefused_right : FnScope ["_law_well_here", "_law_profile_here", "_law_at", "_law_way", "_law_odd_here", "_law_some", "_law_rule", "_law_acts", "_law_is_rule"] ["_law_well_here", "_law_profile_here"] (defScope s_lrefused_right) := ⟨rfl, rfl, rfl, by decide +kernel, rfl, by decide +kernel, by decide +kernel⟩
def menuR : List PyData := [.int (-1), .bool true, .none, .str "3", .tuple [.int 3], .list [.int 3], .int 60, .int 61, .int 0, .dict [], .int (10 ^ (20 : Int).toNat)]
theorem pow_ten {k : PyData → Prop} (h : k (.int (10 ^ (20 : Int).toNat))) : IntD CPow (fun i j => i ^ j.toNat) (.int 10) (.int 20) k := ⟨⟨by decide, by decide, by decide⟩, h⟩
theorem odd_gn {d : PyData} (h : d ∈ oddA ∨ d ∈ oddB) : GN 2000 40 d := by
  have a : ∀ d ∈ oddA, GN 2000 40 d := by decide +kernel
  have b : ∀ d ∈ oddB, GN 2000 40 d := by decide +kernel
  exact h.elim (a d) (b d)
theorem cut_len (xs : List PyData) (lo hi : Option Int) : (Px.cutD xs lo hi).length ≤ xs.length := by
  unfold Px.cutD
  rw [List.length_take, List.length_drop]
  omega
theorem cut_mem {xs : List PyData} {lo hi : Option Int} {d : PyData} (h : d ∈ Px.cutD xs lo hi) : d ∈ xs := List.mem_of_mem_drop (List.mem_of_mem_take h)
theorem prof_gn {xs : List PyData} (hP : profB (.tuple xs) = true) : xs.length = 6 ∧ ∀ d ∈ xs, GN 100 10 d := by
  obtain ⟨xs', e, hn, ha⟩ := prof_tup hP
  cases e
  obtain ⟨x0, x1, x2, x3, x4, x5, rfl⟩ := six_ints hn (nat_int ha)
  have hP : (decide ((6 : Int) = 6) && (decide (0 ≤ x0) && (decide (0 ≤ x1) && (decide (0 ≤ x2) && (decide (0 ≤ x3) && (decide (0 ≤ x4) && (decide (0 ≤ x5) && true)))))) && (decide (1 ≤ x0 + (x1 + (x2 + (x3 + (x4 + (x5 + 0)))))) && decide (x0 + (x1 + (x2 + (x3 + (x4 + (x5 + 0))))) ≤ 60))) = true := hP
  simp only [Bool.and_eq_true, decide_eq_true_eq] at hP
  refine ⟨rfl, fun d hd => ?_⟩
  simp only [List.mem_cons, List.not_mem_nil, or_false] at hd
  rcases hd with rfl | rfl | rfl | rfl | rfl | rfl
  all_goals exact (gn_int (by omega) (by omega)).mono (by decide) (by decide)
theorem tup_gn {ds : List PyData} (l : ds.length ≤ 16) (h : ∀ d ∈ ds, GN 100 10 d) : GN 2000 40 (.tuple ds) := (gn_tup h).mono (by omega) (by decide)
theorem prof_gnT {xs : List PyData} (hP : profB (.tuple xs) = true) : GN 2000 40 (.tuple xs) := tup_gn (by rw [(prof_gn hP).1]; decide) (prof_gn hP).2
theorem intf_b {b : Bool} {k : PyData → Prop} (h : k (.int (if b = true then 1 else 0))) : IntF (.bool b) k := h
theorem ref_prefix (F1 : Call P w K mg base (L2.CX P w) 1 "_law_draw" ["_law_well_here", "_law_top"] (spP 1 preDraw RDraw)) (F2 : Call P w K mg base (L2.CX P w) 2 "_law_of" ["_law_well_here", "_law_menu"] (spP 1 preOf ROf)) (F3 : Call P w K mg base (L2.CX P w) 3 "_law_odd" ["_law_well_here"] (spP 0 (fun ps _ => Well ps) ROdd))
    (B : Gls mg) {f : Addr} {cdv : Value} {A : Around} {outer : List Env} {s : Shared} {H : Hp} {E : XK} {Bs : Bas} {ad : Addr} {ms : List PyData} {xs : List PyData} {ψ : Addr → PyData → List Sl → Prop} {D : DE}
    (c : Bod (cxOf (L2.CX P w) P w K mg base ["_law_well_here", "_law_profile_here", "_law_at", "_law_way", "_law_odd_here", "_law_some", "_law_rule", "_law_acts", "_law_is_rule"] "_law_refused_right" (defScope s_lrefused_right) f cdv A outer s H E) 8) (ex : Exc Bs (cxOf (L2.CX P w) P w K mg base ["_law_well_here", "_law_profile_here", "_law_at", "_law_way", "_law_odd_here", "_law_some", "_law_rule", "_law_acts", "_law_is_rule"] "_law_refused_right" (defScope s_lrefused_right) f cdv A outer s H E) ψ)
    (hw : Well ms) (hP : profB (.tuple xs) = true) (tail : ∀ (ms : List PyData) (d r : PyData) (s2 s3 s4 s5 : Sl), Well ms → GN 2000 40 d → GN 2000 40 r → Gs Bs (cxOf (L2.CX P w) P w K mg base ["_law_well_here", "_law_profile_here", "_law_at", "_law_way", "_law_odd_here", "_law_some", "_law_rule", "_law_acts", "_law_is_rule"] "_law_refused_right" (defScope s_lrefused_right) f cdv A outer s H E) ((defBody s_lrefused_right).drop 4) [.own ad ms, .d d, s2, s3, s4, s5, .d r, .no, .no] D) :
      Gs Bs (cxOf (L2.CX P w) P w K mg base ["_law_well_here", "_law_profile_here", "_law_at", "_law_way", "_law_odd_here", "_law_some", "_law_rule", "_law_acts", "_law_is_rule"] "_law_refused_right" (defScope s_lrefused_right) f cdv A outer s H E) (defBody s_lrefused_right) [.own ad ms, .d (.tuple xs), .no, .no, .no, .no, .no, .no, .no] D := by
  have nd := sc_lrefused_right.nd
  have rest : ∀ (ms : List PyData) (d : PyData) (s2 s3 s4 s5 : Sl), Well ms → GN 2000 40 d → Gs Bs (cxOf (CX P w) P w K mg base ["_law_well_here", "_law_profile_here", "_law_at", "_law_way", "_law_odd_here", "_law_some", "_law_rule", "_law_acts", "_law_is_rule"] "_law_refused_right" (defScope s_lrefused_right) f cdv A outer s H E) ((defBody s_lrefused_right).drop 3) [.own ad ms, .d d, s2, s3, s4, s5, .no, .no, .no] D := by
    intro ms d s2 s3 s4 s5 hw gd
    refine gs_cons ?_
    repeat infer_instance
    refine ⟨hw, fun o ms1 hR => ?_⟩
    clear hw
    obtain ⟨hw, o1, ho1, rfl⟩ := hR
    refine to_ok ?_
    repeat infer_instance
    refine ⟨hw, fun o ms1 hR => ?_⟩
    clear hw
    obtain ⟨hw, o2, ho2, rfl⟩ := hR
    refine to_ok ?_
    repeat infer_instance
    refine ⟨hw, fun o ms1 hR => ?_⟩
    clear hw
    obtain ⟨hw, o3, ho3, rfl⟩ := hR
    refine to_ok ?_
    repeat infer_instance
    refine ⟨⟨hw, _, rfl, (show 0 < 7 by decide), (show 7 < 2 ^ 30 by decide)⟩, fun o ms1 hR => ?_⟩
    clear hw
    obtain ⟨hw, ys, r, e, hr, rfl⟩ := hR
    cases e
    refine to_ok ?_
    have gr : GN 2000 40 r := by
      simp only [List.mem_cons, List.not_mem_nil, or_false] at hr
      rcases hr with rfl | rfl | rfl | rfl | rfl | rfl | rfl
      · decide +kernel
      · decide +kernel
      · decide +kernel
      · decide +kernel
      · exact odd_gn ho1
      · exact odd_gn ho2
      · exact odd_gn ho3
    first | exact tail _ _ _ _ _ _ _ hw gd gr | exact ⟨rfl, tail _ _ _ _ _ _ _ hw gd gr⟩
  have hX := prof_gn hP
  have hX1 := hX.1
  refine gs_cons ?_
  repeat infer_instance
  refine ⟨⟨hw, _, rfl, by decide, by decide⟩, fun o ms1 hR => ?_⟩
  clear hw
  obtain ⟨hw, at', top, e, rfl, at0, at1⟩ := hR
  cases e
  refine to_ok ?_
  repeat infer_instance
  refine ⟨⟨hw, _, rfl, by decide, by decide⟩, fun o ms1 hR => ?_⟩
  clear hw
  obtain ⟨hw, way, top, e, rfl, way0, way1⟩ := hR
  cases e
  refine to_ok ?_
  repeat infer_instance
  refine pow_ten ?_
  repeat infer_instance
  refine ⟨⟨hw, _, rfl, by decide, by decide⟩, fun o ms1 hR => ?_⟩
  clear hw
  obtain ⟨hw, ys, od, e, hod, rfl⟩ := hR
  cases e
  have god : GN 100 10 od := by
    revert hod
    exact (show ∀ od ∈ menuR, GN 100 10 od by decide +kernel) od
  refine to_ok ?_
  repeat infer_instance
  generalize hb : decide (way < 3) = t
  cases t
  case true =>
    repeat infer_instance
    refine add_t2 (Nat.ble_eq_true_of_le (by have := cut_len xs none (some at'); show _ + 1 ≤ 1000; omega)) ?_
    repeat infer_instance
    generalize decide (0 < way) = b
    refine intf_b ?_
    refine add_ii ?_
    generalize at' + (if b = true then (1 : Int) else 0) = n1
    repeat infer_instance
    have l1 := cut_len xs none (some at')
    have l2 := cut_len xs (some n1) none
    refine add_t2 (Nat.ble_eq_true_of_le (by rw [List.length_append]; show _ + 1 + _ ≤ 1000; omega)) ?_
    have gd : GN 2000 40 (.tuple (Px.cutD xs none (some at') ++ [od] ++ Px.cutD xs (some n1) none)) := tup_gn (by rw [List.length_append, List.length_append]; show _ + 1 + _ ≤ 16; omega) fun d hd => by
      rcases List.mem_append.mp hd with hd | hd
      · rcases List.mem_append.mp hd with hd | hd
        · exact hX.2 d (cut_mem hd)
        · rw [List.mem_singleton.mp hd]
          exact god
      · exact hX.2 d (cut_mem hd)
    refine ⟨rfl, ?_⟩
    repeat (with_reducible refine gs_nil ?_)
    exact rest _ _ _ _ _ _ hw gd
  repeat infer_instance
  generalize hb3 : PyData.eqv (.int way) (.int 3) = t
  cases t
  · repeat infer_instance
    repeat (with_reducible refine gs_nil ?_)
    exact rest _ _ _ _ _ _ hw (prof_gnT hP)
  repeat infer_instance
  refine gf_list1 false rfl rfl (Gls.list (by assumption)) ?_ (star_cons rfl)
  refine gq_of ?_
  repeat infer_instance
  refine ⟨by rw [hX1]; decide, ?_⟩
  repeat infer_instance
  refine ⟨hw, fun o ms1 hR => ?_⟩
  clear hw
  obtain ⟨hw, o1, ho1, rfl⟩ := hR
  refine to_ok ?_
  repeat infer_instance
  refine ⟨⟨hw, _, rfl, (show 0 < 10 by decide), (show 10 < 2 ^ 30 by decide)⟩, fun o ms1 hR => ?_⟩
  clear hw
  obtain ⟨hw, ys, d, e, hd, rfl⟩ := hR
  cases e
  refine to_ok ?_
  have gd : GN 2000 40 d := by
    have lX : ∀ ds : List PyData, (∀ d ∈ ds, d ∈ xs ∨ d = .int 0) → ds.length ≤ 16 → GN 2000 40 (.tuple ds) := fun ds h l => tup_gn l fun d hd => (h d hd).elim (hX.2 d) fun e => by rw [e]; decide +kernel
    simp only [List.mem_append, List.mem_cons, List.not_mem_nil, or_false] at hd
    rcases hd with (rfl | rfl | rfl | rfl | rfl | rfl | rfl | rfl | rfl) | rfl
    · exact (gn_list hX.2).mono (by rw [hX1]; decide) (by decide)
    · decide +kernel
    · decide +kernel
    · decide +kernel
    · exact lX _ (fun d hd => .inl (cut_mem hd)) (Nat.le_trans (cut_len _ _ _) (by rw [hX1]; decide))
    · exact lX _ (fun d hd => (List.mem_append.mp hd).elim .inl fun h => .inr (List.mem_singleton.mp h)) (by rw [List.length_append, hX1]; decide)
    · decide +kernel
    · exact (gn_tup (n := 1000) (k := 20) fun d hd => by
        rw [List.mem_singleton.mp hd]
        exact (gn_tup hX.2).mono (by rw [hX1]; decide) (by decide)).mono (show 1 * (1000 + 2) + 3 ≤ 2000 by decide) (by decide)
    · decide +kernel
    · exact odd_gn ho1
  refine ⟨rfl, ?_⟩
  repeat (with_reducible refine gs_nil ?_)
  exact rest _ _ _ _ _ _ hw gd
end
end K75
namespace K75
open PySem PySem.Spec PyProof.Rows L2 Tc Px
open Py LamX
local macro_rules | `(tactic| infer_instance) => `(tactic| first
  | ((with_reducible show GE _ _ (Expr.Call (Expr.Name "winners" _) [] [_, _] _) _ _); (with_reducible apply ge_callR); (case F => with_reducible assumption); (exact ⟨rfl, rfl, rfl, rfl, rfl⟩); (first | with_reducible assumption | exact Bod.toCxt (by with_reducible assumption) | exact Cxt.blk (Bod.toCxt (by with_reducible assumption)) _ _ _ _ _ _); (eq_refl); (eq_refl); (first | with_reducible assumption | exact Exc.none); rotate_left; (decide); (eq_refl); (eq_refl); (eq_refl); (eq_refl))
  | ((with_reducible show GF _ _ (Expr.BinOp (Expr.List _ _) Operator.Mult _ _) _ _); (with_reducible refine gf_rep ?_))
  | ((with_reducible show GF _ _ (Expr.IfExp _ _ _ _) _ _); (with_reducible refine gf_if ?_))
  | ((with_reducible show ∀ B0 : Bas, Same _ _ → _); intro _ _ _)
  | ((with_reducible show ∃ k0 : Int, _ = PyData.int k0 ∧ (0 ≤ k0 ∧ k0 ≤ 1000) ∧ _); refine ⟨_, rfl, ⟨by first | decide | omega, by first | decide | omega⟩, Nat.le_of_ble_eq_true rfl, ?_⟩)
  | ((with_reducible show ∀ a0 : Addr, Alone _ a0 → _); intro _ _)
  )
section
variable {P : Program} {w : World} {K : PySem.W.Frag} {mg : Str → Option Value} {base : Heap}
/-- the two calls, in lambdas -/
theorem judge1 {CP CR : Addr} (F1 : Call P w K mg base (L2.CX P w) 5 "winners" ["profile", "rule"] (spF 2 (fun _ => True) fun ds => winO CP CR ds)) (sm : ∃ o, K.lookup sysModules = some o)
    {f0 : Addr} {cdv : Value} {A0 : Around} {outer0 : List Env} {s0 : Shared} {H0 : Hp} {E0 : XK} {A : Around} {outer : List Env} {s : Shared} {H : Hp} {E : XK} {B : Bas} {f c' : Addr} {p1 p2 p3 p4 : Pos} {d r : PyData}
    (hr : Room 5 (lamCx (cxOf (L2.CX P w) P w K mg base ["_law_well_here", "_law_profile_here", "_law_at", "_law_way", "_law_odd_here", "_law_some", "_law_rule", "_law_acts", "_law_is_rule"] "_law_refused_right" (defScope s_lrefused_right) f0 cdv A0 outer0 s0 H0 E0) A outer s H E { kind := ScopeKind.function, names := [("_law_profile_here", NameKind.free), ("_law_rule", NameKind.free), ("winners", NameKind.globalImplicit)], isGenerator := false, isCoroutine := false } f c').A) (hg : (lamCx (cxOf (L2.CX P w) P w K mg base ["_law_well_here", "_law_profile_here", "_law_at", "_law_way", "_law_odd_here", "_law_some", "_law_rule", "_law_acts", "_law_is_rule"] "_law_refused_right" (defScope s_lrefused_right) f0 cdv A0 outer0 s0 H0 E0) A outer s H E { kind := ScopeKind.function, names := [("_law_profile_here", NameKind.free), ("_law_rule", NameKind.free), ("winners", NameKind.globalImplicit)], isGenerator := false, isCoroutine := false } f c').A.guards = some []) (ex : Exc B (lamCx (cxOf (L2.CX P w) P w K mg base ["_law_well_here", "_law_profile_here", "_law_at", "_law_way", "_law_odd_here", "_law_some", "_law_rule", "_law_acts", "_law_is_rule"] "_law_refused_right" (defScope s_lrefused_right) f0 cdv A0 outer0 s0 H0 E0) A outer s H E { kind := ScopeKind.function, names := [("_law_profile_here", NameKind.free), ("_law_rule", NameKind.free), ("winners", NameKind.globalImplicit)], isGenerator := false, isCoroutine := false } f c') (fun C e _ => winO CP CR [d, r] = .up C e)) :
    GE B (lamCx (cxOf (L2.CX P w) P w K mg base ["_law_well_here", "_law_profile_here", "_law_at", "_law_way", "_law_odd_here", "_law_some", "_law_rule", "_law_acts", "_law_is_rule"] "_law_refused_right" (defScope s_lrefused_right) f0 cdv A0 outer0 s0 H0 E0) A outer s H E { kind := ScopeKind.function, names := [("_law_profile_here", NameKind.free), ("_law_rule", NameKind.free), ("winners", NameKind.globalImplicit)], isGenerator := false, isCoroutine := false } f c') (.Call (.Name "winners" p1) [.Name "_law_profile_here" p2, .Name "_law_rule" p3] [] p4) [.no, .d d, .no, .no, .no, .no, .d r, .no, .no] fun e _ => winO CP CR [d, r] = .ok e := by
  have c : Cxt (lamCx (cxOf (L2.CX P w) P w K mg base ["_law_well_here", "_law_profile_here", "_law_at", "_law_way", "_law_odd_here", "_law_some", "_law_rule", "_law_acts", "_law_is_rule"] "_law_refused_right" (defScope s_lrefused_right) f0 cdv A0 outer0 s0 H0 E0) A outer s H E { kind := ScopeKind.function, names := [("_law_profile_here", NameKind.free), ("_law_rule", NameKind.free), ("winners", NameKind.globalImplicit)], isGenerator := false, isCoroutine := false } f c') 5 := ⟨hr, hg, sm⟩
  repeat infer_instance
  generalize winO CP CR [d, r] = o
  cases o <;> exact rfl
theorem judge2 {CP CR : Addr} (F1 : CallR P w K mg base (L2.CX P w) 5 "winners" ["profile", "rule"] (spF 2 (fun _ => True) fun ds => winO CP CR ds) ["rule", "profile"]) (sm : ∃ o, K.lookup sysModules = some o)
    {f0 : Addr} {cdv : Value} {A0 : Around} {outer0 : List Env} {s0 : Shared} {H0 : Hp} {E0 : XK} {A : Around} {outer : List Env} {s : Shared} {H : Hp} {E : XK} {B : Bas} {f c' : Addr} {p1 p2 p3 p4 p5 p6 : Pos} {d r : PyData}
    (hr : Room 5 (lamCx (cxOf (L2.CX P w) P w K mg base ["_law_well_here", "_law_profile_here", "_law_at", "_law_way", "_law_odd_here", "_law_some", "_law_rule", "_law_acts", "_law_is_rule"] "_law_refused_right" (defScope s_lrefused_right) f0 cdv A0 outer0 s0 H0 E0) A outer s H E { kind := ScopeKind.function, names := [("_law_profile_here", NameKind.free), ("_law_rule", NameKind.free), ("winners", NameKind.globalImplicit)], isGenerator := false, isCoroutine := false } f c').A) (hg : (lamCx (cxOf (L2.CX P w) P w K mg base ["_law_well_here", "_law_profile_here", "_law_at", "_law_way", "_law_odd_here", "_law_some", "_law_rule", "_law_acts", "_law_is_rule"] "_law_refused_right" (defScope s_lrefused_right) f0 cdv A0 outer0 s0 H0 E0) A outer s H E { kind := ScopeKind.function, names := [("_law_profile_here", NameKind.free), ("_law_rule", NameKind.free), ("winners", NameKind.globalImplicit)], isGenerator := false, isCoroutine := false } f c').A.guards = some []) (ex : Exc B (lamCx (cxOf (L2.CX P w) P w K mg base ["_law_well_here", "_law_profile_here", "_law_at", "_law_way", "_law_odd_here", "_law_some", "_law_rule", "_law_acts", "_law_is_rule"] "_law_refused_right" (defScope s_lrefused_right) f0 cdv A0 outer0 s0 H0 E0) A outer s H E { kind := ScopeKind.function, names := [("_law_profile_here", NameKind.free), ("_law_rule", NameKind.free), ("winners", NameKind.globalImplicit)], isGenerator := false, isCoroutine := false } f c') (fun C e _ => winO CP CR [d, r] = .up C e)) :
    GE B (lamCx (cxOf (L2.CX P w) P w K mg base ["_law_well_here", "_law_profile_here", "_law_at", "_law_way", "_law_odd_here", "_law_some", "_law_rule", "_law_acts", "_law_is_rule"] "_law_refused_right" (defScope s_lrefused_right) f0 cdv A0 outer0 s0 H0 E0) A outer s H E { kind := ScopeKind.function, names := [("_law_profile_here", NameKind.free), ("_law_rule", NameKind.free), ("winners", NameKind.globalImplicit)], isGenerator := false, isCoroutine := false } f c') (.Call (.Name "winners" p1) [] [⟨some "rule", .Name "_law_rule" p3, p5⟩, ⟨some "profile", .Name "_law_profile_here" p2, p6⟩] p4) [.no, .d d, .no, .no, .no, .no, .d r, .no, .no] fun e _ => winO CP CR [d, r] = .ok e := by
  have c : Cxt (lamCx (cxOf (L2.CX P w) P w K mg base ["_law_well_here", "_law_profile_here", "_law_at", "_law_way", "_law_odd_here", "_law_some", "_law_rule", "_law_acts", "_law_is_rule"] "_law_refused_right" (defScope s_lrefused_right) f0 cdv A0 outer0 s0 H0 E0) A outer s H E { kind := ScopeKind.function, names := [("_law_profile_here", NameKind.free), ("_law_rule", NameKind.free), ("winners", NameKind.globalImplicit)], isGenerator := false, isCoroutine := false } f c') 5 := ⟨hr, hg, sm⟩
  repeat infer_instance
  generalize winO CP CR [d, r] = o
  cases o <;> exact rfl
end
end K75
namespace K75
open PySem PySem.Spec PyProof.Rows L2 Tc Px
open Py
local macro_rules | `(tactic| infer_instance) => `(tactic| first
  | ((with_reducible show GT _ _ (Expr.Compare _ [CmpOp.NotEq] [Expr.List [] _] _) _ _); (with_reducible apply gt_neL); (first | with_reducible assumption | exact Bod.toCxt (by with_reducible assumption) | exact Cxt.blk (Bod.toCxt (by with_reducible assumption)) _ _ _ _ _ _ | exact Cxt.blk (Cxt.blk (Bod.toCxt (by with_reducible assumption)) _ _ _ _ _ _) _ _ _ _ _ _))
  | (with_reducible refine gs_nil ?_)
  )
section
variable {P : Program} {w : World} {K : PySem.W.Frag} {mg : Str → Option Value} {base : Heap}
theorem sc_lis_profile : FnScope ["_law_thing", "_law_one"] ["_law_thing"] (defScope s_lis_profile) := ⟨rfl, rfl, rfl, by decide +kernel, rfl, by decide +kernel, by decide +kernel⟩
theorem odd_none (xs : List PyData) : (!(((List.range xs.length).filter fun i => !natB (nth xs i)).map fun i => nth xs i).isEmpty) = !xs.all natB := by
  rw [range_nth (fun e => !natB e) (fun e => e) xs, List.map_id']
  congr 1
  induction xs with
  | nil => rfl
  | cons x r ih =>
    rw [List.filter_cons, List.all_cons]
    cases h : natB x
    · rfl
    · simpa using ih
theorem ok_is_profile {f : Addr} {fd : FuncData} (F : Fun K "_law_is_profile" "_law_is_profile" s_lis_profile f fd) (sm : ∃ o, K.lookup sysModules = some o) (B : Gls mg) :
    FnG P w K mg base (L2.CX P w) 1 f fd ["_law_thing"] (sp1 fun d => .bool (profB d)) := by
  refine fn_data F sc_lis_profile sm (by decide) _ _ fun cdv A outer s H E Bs ds hl hp c ex => ?_
  have nd := sc_lis_profile.nd
  match ds, hl with
  | [d], hl =>
  refine gs_cons ?_
  repeat infer_instance
  rw [isD_tuple]
  cases d with
  | tuple xs =>
    dsimp only
    repeat infer_instance
    rw [eqv_int]
    generalize hb : decide ((xs.length : Int) = 6) = t
    cases t
    · repeat infer_instance
      show Out.ok (.bool ((decide _ && _) && _)) = _
      rw [hb] <;> rfl
    have hn : (xs.length : Int) = 6 := of_decide_eq_true hb
    repeat infer_instance
    ((with_reducible apply gf_lk); (eq_refl); (assumption); (eq_refl); (eq_refl); (eq_refl); (intro _; eq_refl))
    repeat infer_instance
    refine ⟨Nat.le_trans (show xs.length ≤ 1000 by omega) (by decide), fun i => !natB (nth xs i), fun i => nth xs i, fun i hi B' => ?_, ?_⟩
    · generalize he : nth xs i = e
      repeat infer_instance
      rw [isD_int]
      cases e with
      | int j =>
        dsimp only
        repeat infer_instance
        rw [isD_bool]
        dsimp only
        repeat infer_instance
        rw [he]
        refine ⟨show decide (j < 0) = !decide (0 ≤ j) from ?_, ?_⟩
        · by_cases z : j < 0
          · rw [decide_eq_true z, decide_eq_false (by omega)] <;> rfl
          · rw [decide_eq_false z, decide_eq_true (by omega)] <;> rfl
        generalize decide (j < 0) = t
        cases t <;> (repeat infer_instance)
        all_goals first | exact he.symm | rfl
      | bool b =>
        dsimp only
        repeat infer_instance
        rw [isD_bool]
        dsimp only
        repeat infer_instance
        rw [he]
        refine ⟨rfl, ?_⟩
        repeat infer_instance
        all_goals first | exact he.symm | rfl
      | _ =>
        dsimp only
        repeat infer_instance
        rw [he]
        refine ⟨rfl, ?_⟩
        repeat infer_instance
        all_goals first | exact he.symm | rfl
    repeat infer_instance
    rw [odd_none]
    generalize ha : xs.all natB = t
    have hp : profB (.tuple xs) = (t && (decide (1 ≤ (xs.map asI).sum) && decide ((xs.map asI).sum ≤ 60))) := by
      show ((decide ((xs.length : Int) = 6) && xs.all natB) && _) = _
      rw [hb, ha, Bool.true_and]
    cases t
    · repeat infer_instance
      rw [List.headD_cons, hp] <;> rfl
    repeat infer_instance
    refine sum_tup (nat_int ha) ?_
    repeat infer_instance
    generalize h1 : decide (1 ≤ (xs.map asI).sum) = t
    cases t
    · repeat infer_instance
      rw [h1] at hp
      rw [List.headD_cons, hp] <;> rfl
    repeat infer_instance
    rw [h1] at hp
    rw [List.headD_cons, hp] <;> rfl
  | _ =>
    dsimp only
    repeat infer_instance
    rfl
end
end K75
namespace K75
open PySem PySem.Spec PyProof.Rows L2 Tc Px
open Py LamX
def Stop (p : Prop) : Prop := p
theorem stop_in {p : Prop} (h : Stop p) : p := h
local macro_rules | `(tactic| infer_instance) => `(tactic| first
  | ((with_reducible show GE _ _ (Expr.Call (Expr.Name "_law_all_end" _) _ _ _) _ _); (with_reducible refine stop_in ?_))
  | ((with_reducible show GE _ _ (Expr.Compare _ [CmpOp.In] _ _) _ _); (with_reducible apply ge_in true); (eq_refl))
  | ((with_reducible show G1 _ _ (Stmt.Assign [Expr.Tuple [Expr.Name _ _, Expr.Name _ _] _ _] (Expr.Tuple _ _ _) _) _ _); (with_reducible apply par_n); (with_reducible assumption); (assumption); (eq_refl); (eq_refl); (eq_refl); (eq_refl); (eq_refl); (eq_refl); (eq_refl); (eq_refl))
  | ((with_reducible show GF _ _ (Expr.BinOp (Expr.List _ _) Operator.Mult _ _) _ _); (with_reducible refine gf_rep ?_))
  | ((with_reducible show GF _ _ (Expr.IfExp _ _ _ _) _ _); (with_reducible refine gf_if ?_))
  | ((with_reducible show ∀ B0 : Bas, Same _ _ → _); intro _ _ _)
  | ((with_reducible show ∃ k0 : Int, _ = PyData.int k0 ∧ (0 ≤ k0 ∧ k0 ≤ 1000) ∧ _); refine ⟨_, rfl, ⟨by first | decide | omega, by first | decide | omega⟩, Nat.le_of_ble_eq_true rfl, ?_⟩)
  | ((with_reducible show ∀ a0 : Addr, Alone _ a0 → _); intro _ _)
  )
section
variable {P : Program} {w : World} {K : PySem.W.Frag} {mg : Str → Option Value} {base : Heap}
theorem join_gn (xs : List PyData) (r : Str) : GN 100 10 (.str (Txt.join "" (winS xs r))) := by
  rw [win_pick]
  generalize qW r xs 0 = a
  generalize qW r xs 1 = b
  generalize qW r xs 2 = c
  cases a <;> cases b <;> cases c <;> decide +kernel
theorem winO_is (CP CR : Addr) (d r : PyData) : winO CP CR [d, r] = .up CP d ∨ winO CP CR [d, r] = .up CR r ∨ ∃ z, winO CP CR [d, r] = .ok (.str z) ∧ GN 100 10 (.str z) := by
  simp only [winO]
  split
  · split
    · refine .inr (.inr ⟨_, rfl, ?_⟩)
      split
      · exact join_gn _ _
      · decide +kernel
    · exact .inr (.inl rfl)
  · exact .inl rfl
theorem winO_up {CP CR : Addr} {d r : PyData} : ∀ C e, winO CP CR [d, r] = .up C e → C = CP ∨ C = CR := by
  intro C e h
  rcases winO_is CP CR d r with q | q | ⟨z, q, _⟩
  · rw [q] at h
    cases h
    exact .inl rfl
  · rw [q] at h
    cases h
    exact .inr rfl
  · rw [q] at h
    cases h
theorem due_p {CP CR : Addr} {d r : PyData} (h : profB d = false) : heardD CP (winO CP CR [d, r]) = .list [.str "profile", d] := by
  have e : winO CP CR [d, r] = .up CP d := by
    show (if profB d = true then _ else Out.up CP d) = _
    rw [if_neg (by rw [h]; decide)]
  rw [e]
  show PyData.list [.str (if decide (CP = CP) = true then "profile" else "rule"), d] = _
  rw [if_pos (decide_eq_true rfl)]
theorem due_r {CP CR : Addr} (ne : CP ≠ CR) {d r : PyData} (h : profB d = true) (h2 : ruleB r = false) : heardD CP (winO CP CR [d, r]) = .list [.str "rule", r] := by
  have e : winO CP CR [d, r] = .up CR r := by
    show (if profB d = true then (if ruleB r = true then _ else Out.up CR r) else _) = _
    rw [if_pos h, if_neg (by rw [h2]; decide)]
  rw [e]
  show PyData.list [.str (if decide (CR = CP) = true then "profile" else "rule"), r] = _
  rw [if_neg (by rw [decide_eq_false (fun z => ne z.symm)]; decide)]
theorem due_w {CP CR : Addr} {d r : PyData} (h : profB d = true) (h2 : ruleB r = true) : ∃ xs z, d = .tuple xs ∧ r = .str z ∧ preWon [d, r] ∧ heardD CP (winO CP CR [d, r]) = .list [.str "told", wonD [d, r]] := by
  obtain ⟨xs, rfl, hn, ha⟩ := prof_tup h
  cases r with
  | str z =>
    have hz : z ∈ rules := by
      obtain ⟨y, hy, e⟩ := List.any_eq_true.mp h2
      rw [← of_decide_eq_true e]
      exact hy
    refine ⟨xs, z, rfl, rfl, ⟨xs, z, rfl, hn, nat_int ha, hz⟩, ?_⟩
    rw [win_ok h hz]
    rfl
  | _ => cases h2
theorem due_gn {CP CR : Addr} {d r : PyData} (gd : GN 2000 40 d) (gr : GN 2000 40 r) : GN 10000 50 (heardD CP (winO CP CR [d, r])) := by
  have two : ∀ (z : Str) (e : PyData), GN 2000 40 (.str z) → GN 2000 40 e → GN 10000 50 (.list [.str z, e]) := fun z e h1 h2 => (gn_list (n := 2000) (k := 40) fun x hx => by
    simp only [List.mem_cons, List.not_mem_nil, or_false] at hx
    rcases hx with rfl | rfl
    · exact h1
    · exact h2).mono (by show 2 * (2000 + 2) + 2 ≤ 10000; decide) (by decide)
  have k : ∀ C, GN 2000 40 (.str (kindW CP C)) := fun C => by
    unfold kindW
    split
    · decide +kernel
    · decide +kernel
  rcases winO_is CP CR d r with q | q | ⟨z, q, gz⟩
  · rw [q]
    exact two _ _ (k CP) gd
  · rw [q]
    exact two _ _ (k CR) gr
  · rw [q]
    exact two "told" _ (by decide +kernel) (gz.mono (by decide) (by decide))
theorem ok_refused {CP CR cc Pt : Addr} {T : List (Addr × Str)} (ne : CP ≠ CR) {f : Addr} {fd : FuncData} (F : Fun K "_law_refused_right" "_law_refused_right" s_lrefused_right f fd) (hcode : fd.code = .ref cc) (sm : ∃ o, K.lookup sysModules = some o) (B : Gls mg) (TB : TabB base mg cc Pt)
    (hmT : (Pt, (envOfC "_law_refused_right" (defScope s_lrefused_right) 0 f (.ref cc)).qual ++ "<lambda>") ∈ T) (hu : ∀ p ∈ T, p.1 = Pt → p.2 = (envOfC "_law_refused_right" (defScope s_lrefused_right) 0 f (.ref cc)).qual ++ "<lambda>")
    (F1 : Call P w K mg base (L2.CX P w) 1 "_law_draw" ["_law_well_here", "_law_top"] (spP 1 preDraw RDraw)) (F2 : Call P w K mg base (L2.CX P w) 2 "_law_of" ["_law_well_here", "_law_menu"] (spP 1 preOf ROf)) (F3 : Call P w K mg base (L2.CX P w) 3 "_law_odd" ["_law_well_here"] (spP 0 (fun ps _ => Well ps) ROdd))
    (F4 : Call P w K mg base (L2.CX P w) 1 "_law_is_profile" ["_law_thing"] (sp1 fun d => .bool (profB d)))
    (F5 : Call P w K mg base (L2.CX P w) 5 "winners" ["profile", "rule"] (spF 2 (fun _ => True) fun ds => winO CP CR ds)) (F6 : CallR P w K mg base (L2.CX P w) 5 "winners" ["profile", "rule"] (spF 2 (fun _ => True) fun ds => winO CP CR ds) ["rule", "profile"])
    (F7 : Call P w K mg base (L2.CX P w) 2 "_law_won" ["_law_profile_here", "_law_rule"] (spF 2 preWon fun ds => .ok (wonD ds))) (F8 : Call P w K mg base (L2.CX P w) 8 "_law_all_end" ["_law_acts", "_law_due"] (spS 2 (preEnd P w K mg base CP CR))) :
    FnG P w K mg base (L2.CX P w) 9 f fd ["_law_well_here", "_law_profile_here"] (spT 1 preRef RTrue T) := by
  refine fn_pailTC T F hcode sc_lrefused_right sm rfl _ _ fun A outer s H E Bs ad ms ds hl hw hT hB c ex => ?_
  have nd := sc_lrefused_right.nd
  obtain ⟨hw, xs, rfl, hP⟩ := hw
  refine ref_prefix F1 F2 F3 B c ex hw hP fun ms d r s2 s3 s4 s5 hw gd gr => ?_
  refine gs_lams TB rfl hmT hu hT hB rfl (lamS_by (sc := defScope s_lrefused_right) (by decide +kernel)) rfl (lamS_by (sc := defScope s_lrefused_right) (by decide +kernel)) nd (by rfl) (.inl rfl) (.inl rfl) (.inl rfl) (by rfl) (by decide) (by decide) (by rfl) (by rfl) (by rfl) (by rfl) (by rfl) fun La f1 f2 c1 c2 pm1 ct1 pm2 ct2 B2 ss sg st eLa e1 e1c e2 e2c => ?_
  have ex2 := ex.under ss sg st
  clear ex
  show Gs B2 (cxOf (L2.CX P w) P w K mg base ["_law_well_here", "_law_profile_here", "_law_at", "_law_way", "_law_odd_here", "_law_some", "_law_rule", "_law_acts", "_law_is_rule"] "_law_refused_right" (defScope s_lrefused_right) f (.ref cc) A outer s H E) _ [.own ad ms, .d d, s2, s3, s4, s5, .d r, .v (.ref La), .no] _
  have act : ∀ {L : Pins} {H1 Hs1 : Hp} {σ : L2.St} {w1 w2 : V} {sl : Sl} {e : PyData} {v : V}, Sx B2 Hs1 σ H1 [.own ad ms, .d d, s2, s3, s4, s5, .d r, .v (.ref La), sl] → Dv Hs1 v e → σ[1]? = some (some w1) → σ[6]? = some (some w2) → CellsOk (cxOf (L2.CX P w) P w K mg base ["_law_well_here", "_law_profile_here", "_law_at", "_law_way", "_law_odd_here", "_law_some", "_law_rule", "_law_acts", "_law_is_rule"] "_law_refused_right" (defScope s_lrefused_right) f (.ref cc) A outer s H E) L H1 "_law_profile_here" "_law_rule" w1 w2 → e = heardD CP (winO CP CR [d, r]) → preEnd P w K mg base CP CR (plus H1 L) Hs1 [.ref La, v] (.ok (.bool true)) := by
    intro L H1 Hs1 σ w1 w2 sl e v S dv z1 z2 C ee
    have out : ∀ {b o}, H1 b = some o → plus H1 L b = some o := fun {b o} e => by
      rw [plus_out (by
        cases q : L.lookup b with
        | none => rfl
        | some u => rw [C.no b u q] at e; cases e)]
      exact e
    have KL : Kept L (plus H1 L) := fun b o q => plus_in q
    have flat : Flat [.no, .d d, .no, .no, .no, .no, .d r, .no, .no] := fun i s h => by
      match i, h with
      | 0, h | 2, h | 3, h | 4, h | 5, h | 7, h | 8, h => exact .inl (Option.some.inj h).symm
      | 1, h | 6, h => exact .inr ⟨_, (Option.some.inj h).symm⟩
    have dat : ∀ (i : Nat) (x : PyData), ([.no, .d d, .no, .no, .no, .no, .d r, .no, .no] : List Sl)[i]? = some (.d x) → ∃ v, σ[i]? = some (some v) ∧ Dv Hs1 v x := fun i x h => by
      match i, h with
      | 0, h | 2, h | 3, h | 4, h | 5, h | 7, h | 8, h => cases h
      | 1, h =>
        cases h
        exact S.dat (i := 1) rfl
      | 6, h =>
        cases h
        exact S.dat (i := 6) rfl
    have off : ∀ b o, L.lookup b = some o → Hs1 b = none := fun b o q => S.sub.free (C.no b o q)
    have nm : ∀ y, (y, NameKind.free) ∈ ([("_law_profile_here", NameKind.free), ("_law_rule", NameKind.free), ("winners", NameKind.globalImplicit)] : List (Str × NameKind)) → y = "_law_profile_here" ∨ y = "_law_rule" := fun y hy => by
      simp only [List.mem_cons, List.not_mem_nil, or_false, Prod.mk.injEq, and_true] at hy
      rcases hy with hy | hy | ⟨_, hy⟩
      · exact .inl hy
      · exact .inr hy
      · cases hy
    have cells : ∀ y, (y, NameKind.free) ∈ ([("_law_profile_here", NameKind.free), ("_law_rule", NameKind.free), ("winners", NameKind.globalImplicit)] : List (Str × NameKind)) → ∃ c o v, ((cxOf (L2.CX P w) P w K mg base ["_law_well_here", "_law_profile_here", "_law_at", "_law_way", "_law_odd_here", "_law_some", "_law_rule", "_law_acts", "_law_is_rule"] "_law_refused_right" (defScope s_lrefused_right) f (.ref cc) A outer s H E)).env.cells.lookup y = some c ∧ L.lookup c = some o ∧ o.data = .cell v := fun y hy => by
      rcases nm y hy with rfl | rfl
      · obtain ⟨c, o, u, q1, q2, q3, _⟩ := C.cx
        exact ⟨c, o, _, q1, q2, q3⟩
      · obtain ⟨c, o, u, q1, q2, q3, _⟩ := C.cy
        exact ⟨c, o, _, q1, q2, q3⟩
    have slots : ∀ (i : Nat) (y : Str) (v : V), ((cxOf (L2.CX P w) P w K mg base ["_law_well_here", "_law_profile_here", "_law_at", "_law_way", "_law_odd_here", "_law_some", "_law_rule", "_law_acts", "_law_is_rule"] "_law_refused_right" (defScope s_lrefused_right) f (.ref cc) A outer s H E)).N[i]? = some y → σ[i]? = some (some v) → (y, NameKind.free) ∈ ([("_law_profile_here", NameKind.free), ("_law_rule", NameKind.free), ("winners", NameKind.globalImplicit)] : List (Str × NameKind)) → ∃ c o u, ((cxOf (L2.CX P w) P w K mg base ["_law_well_here", "_law_profile_here", "_law_at", "_law_way", "_law_odd_here", "_law_some", "_law_rule", "_law_acts", "_law_is_rule"] "_law_refused_right" (defScope s_lrefused_right) f (.ref cc) A outer s H E)).env.cells.lookup y = some c ∧ L.lookup c = some o ∧ o.data = .cell (some u) ∧ RelV v u := fun i y v q1 q2 q3 => by
      rcases nm y q3 with rfl | rfl
      · have : i = 1 := by
          have q1 : (["_law_well_here", "_law_profile_here", "_law_at", "_law_way", "_law_odd_here", "_law_some", "_law_rule", "_law_acts", "_law_is_rule"] : List Str)[i]? = some "_law_profile_here" := q1
          have lt : i < 9 := (List.getElem?_eq_some_iff.mp q1).1
          have all : ∀ j : Nat, j < 9 → (["_law_well_here", "_law_profile_here", "_law_at", "_law_way", "_law_odd_here", "_law_some", "_law_rule", "_law_acts", "_law_is_rule"] : List Str)[j]? = some "_law_profile_here" → j = 1 := by decide +kernel
          exact all i lt q1
        subst this
        rw [z1] at q2
        cases q2
        exact C.cx
      · have : i = 6 := by
          have q1 : (["_law_well_here", "_law_profile_here", "_law_at", "_law_way", "_law_odd_here", "_law_some", "_law_rule", "_law_acts", "_law_is_rule"] : List Str)[i]? = some "_law_rule" := q1
          have lt : i < 9 := (List.getElem?_eq_some_iff.mp q1).1
          have all : ∀ j : Nat, j < 9 → (["_law_well_here", "_law_profile_here", "_law_at", "_law_way", "_law_odd_here", "_law_some", "_law_rule", "_law_acts", "_law_is_rule"] : List Str)[j]? = some "_law_rule" → j = 6 := by decide +kernel
          exact all i lt q1
        subst this
        rw [z2] at q2
        cases q2
        exact C.cy
    refine ⟨La, f1, f2, v, winO CP CR [d, r], rfl, out (S.fr _ _ eLa), ?_, ?_, winO_up, due_gn gd gr, ee ▸ dv, rfl⟩
    · exact act_of (Γ := [.no, .d d, .no, .no, .no, .no, .d r, .no, .no]) C.ok (lamS_by (sc := defScope s_lrefused_right) (by decide +kernel)) (out (S.fr _ _ e1)) (out (S.fr _ _ e1c)) rfl KL S.len (show σ.length = 9 from S.len) flat dat off cells slots fun A2 outer2 s2 H2 E2 B3 hr hg ex3 => judge1 F5 sm hr hg ex3
    · exact act_of (Γ := [.no, .d d, .no, .no, .no, .no, .d r, .no, .no]) C.ok (lamS_by (sc := defScope s_lrefused_right) (by decide +kernel)) (out (S.fr _ _ e2)) (out (S.fr _ _ e2c)) rfl KL S.len (show σ.length = 9 from S.len) flat dat off cells slots fun A2 outer2 s2 H2 E2 B3 hr hg ex3 => judge2 F6 sm hr hg ex3
  have fin : ∀ {sl : Sl} {p py pos : Pos} {b : Expr}, (starEach [.Name "_law_acts" py, b] ((cxOf (L2.CX P w) P w K mg base ["_law_well_here", "_law_profile_here", "_law_at", "_law_way", "_law_odd_here", "_law_some", "_law_rule", "_law_acts", "_law_is_rule"] "_law_refused_right" (defScope s_lrefused_right) f (.ref cc) A outer s H E)).env = (false, eval (.Name "_law_acts" py) ((cxOf (L2.CX P w) P w K mg base ["_law_well_here", "_law_profile_here", "_law_at", "_law_way", "_law_odd_here", "_law_some", "_law_rule", "_law_acts", "_law_is_rule"] "_law_refused_right" (defScope s_lrefused_right) f (.ref cc) A outer s H E)).env) :: starEach [b] ((cxOf (L2.CX P w) P w K mg base ["_law_well_here", "_law_profile_here", "_law_at", "_law_way", "_law_odd_here", "_law_some", "_law_rule", "_law_acts", "_law_is_rule"] "_law_refused_right" (defScope s_lrefused_right) f (.ref cc) A outer s H E)).env) → (starEach [b] ((cxOf (L2.CX P w) P w K mg base ["_law_well_here", "_law_profile_here", "_law_at", "_law_way", "_law_odd_here", "_law_some", "_law_rule", "_law_acts", "_law_is_rule"] "_law_refused_right" (defScope s_lrefused_right) f (.ref cc) A outer s H E)).env = (false, eval b ((cxOf (L2.CX P w) P w K mg base ["_law_well_here", "_law_profile_here", "_law_at", "_law_way", "_law_odd_here", "_law_some", "_law_rule", "_law_acts", "_law_is_rule"] "_law_refused_right" (defScope s_lrefused_right) f (.ref cc) A outer s H E)).env) :: starEach [] ((cxOf (L2.CX P w) P w K mg base ["_law_well_here", "_law_profile_here", "_law_at", "_law_way", "_law_odd_here", "_law_some", "_law_rule", "_law_acts", "_law_is_rule"] "_law_refused_right" (defScope s_lrefused_right) f (.ref cc) A outer s H E)).env) → ((backTo pos (starEach [b] ((cxOf (L2.CX P w) P w K mg base ["_law_well_here", "_law_profile_here", "_law_at", "_law_way", "_law_odd_here", "_law_some", "_law_rule", "_law_acts", "_law_is_rule"] "_law_refused_right" (defScope s_lrefused_right) f (.ref cc) A outer s H E)).env)).any (·.1) = false) →
      GE B2 (cxOf (L2.CX P w) P w K mg base ["_law_well_here", "_law_profile_here", "_law_at", "_law_way", "_law_odd_here", "_law_some", "_law_rule", "_law_acts", "_law_is_rule"] "_law_refused_right" (defScope s_lrefused_right) f (.ref cc) A outer s H E) b [.own ad ms, .d d, s2, s3, s4, s5, .d r, .v (.ref La), sl] (fun e Γ1 => e = heardD CP (winO CP CR [d, r]) ∧ Γ1 = [.own ad ms, .d d, s2, s3, s4, s5, .d r, .v (.ref La), sl]) →
      GE B2 (cxOf (L2.CX P w) P w K mg base ["_law_well_here", "_law_profile_here", "_law_at", "_law_way", "_law_odd_here", "_law_some", "_law_rule", "_law_acts", "_law_is_rule"] "_law_refused_right" (defScope s_lrefused_right) f (.ref cc) A outer s H E) (.Call (.Name "_law_all_end" p) [.Name "_law_acts" py, b] [] pos) [.own ad ms, .d d, s2, s3, s4, s5, .d r, .v (.ref La), sl] (fun e Γ => ∃ ms', Γ[0]? = some (.own ad ms') ∧ RTrue ms [.tuple xs] (.ok e) ms') := by
    intro sl p py pos b h1 h2 h3 h
    refine end_call (out := .bool true) (ix := 7) (i1 := 1) (i2 := 6) (La := La) F8 c.toCxt (by decide) rfl (by decide) h1 h2 h3 rfl rfl (.inr (.inl rfl)) rfl rfl rfl (.inr (.inl rfl)) rfl (by decide) rfl (.inl rfl) (by decide) (by decide) rfl ?_
    intro Hs σ H0 Q S g
    refine h Hs σ H0 Q S fun e Γ1 v Hs1 H1 ⟨q1, q2⟩ s1 S1 dv => ?_
    subst q2
    exact g e _ v Hs1 H1 ⟨⟨ms, rfl, hw, rfl⟩, d, r, rfl, rfl, fun L H2 Hs2 σ2 v2 w1 w2 T q3 z1 z2 C => act T q3 z1 z2 C q1⟩ s1 S1 dv
  refine gs_cons ?_
  repeat infer_instance
  show if (!profB d) = true then _ else _
  generalize hp : profB d = t
  cases t
  case false =>
    repeat infer_instance
    refine fin (star_cons rfl) (star_cons rfl) rfl ?_
    repeat infer_instance
    exact ⟨(due_p hp).symm, rfl⟩
  repeat infer_instance
  repeat (with_reducible refine gs_nil ?_)
  refine gs_cons ?_
  repeat infer_instance
  have hs : (isD "str" r = false ∧ ruleB r = false) ∨ ∃ z, r = .str z := by
    cases r with
    | str z => exact .inr ⟨z, rfl⟩
    | _ => exact .inl ⟨by rw [isD_str], rfl⟩
  rcases hs with ⟨hs, hr⟩ | ⟨z, rfl⟩
  · rw [hs]
    repeat infer_instance
    refine fin (star_cons rfl) (star_cons rfl) rfl ?_
    repeat infer_instance
    exact ⟨(due_r ne hp hr).symm, rfl⟩
  rw [isD_str]
  dsimp only
  repeat infer_instance
  have hb : (([.str "firsts", .str "lasts", .str "points", .str "pairs"] : List PyData).any fun w => PyData.eqv w (.str z)) = ruleB (.str z) := by
    show _ = (["firsts", "lasts", "points", "pairs"] : List Str).any fun y => decide (y = z)
    simp only [List.any_cons, List.any_nil, eqv_str]
  refine ⟨rfl, rfl, ?_⟩
  rw [hb]
  generalize hr : ruleB (.str z) = t
  cases t
  · repeat infer_instance
    refine fin (star_cons rfl) (star_cons rfl) rfl ?_
    repeat infer_instance
    exact ⟨(due_r ne hp hr).symm, rfl⟩
  obtain ⟨xs', z', rfl, ez, pw, ew⟩ := due_w (CP := CP) (CR := CR) hp hr
  cases ez
  repeat infer_instance
  refine fin (star_cons rfl) (star_cons rfl) rfl ?_
  repeat infer_instance
  refine ⟨pw, ?_⟩
  refine to_ok ?_
  repeat infer_instance
  exact ⟨ew.symm, rfl⟩
end
end K75
namespace K75
open PySem PySem.Spec PyProof.Rows L2 Tc Px Py
open LamX (Tabs TabB ExtN TabS)
theorem allB {α : Type} {l : List α} {p : α → Bool} (h : l.all p = true) {x : α} (hx : x ∈ l) : p x = true := List.all_eq_true.mp h x hx
theorem beq_ref {a b : Addr} : ((Value.ref a) == (Value.ref b)) = decide (a = b) := by
  by_cases e : a = b
  · subst e
    simp
  · rw [decide_eq_false e]
    exact beq_eq_false_iff_ne.mpr fun z => e (Value.ref.inj z)
/-- the name of a lambda of the def -/
def lamN (x : Str) (st : Stmt) : Str := (envOfC x (defScope st) 0 0 (.ref 0)).qual ++ "<lambda>"
/-- the tables' list -/
def tabL (K : PySem.W.Frag) : List (Addr × Str) := [((He.cT K ("_law_refused_right", none)).2, lamN "_law_refused_right" s_lrefused_right)]
section
variable {K : PySem.W.Frag} {h : Heap} {mg : Str → Option Value}
structure Parts (K : PySem.W.Frag) : Prop where
  exk : ∀ e ∈ exs, exkB K e.2.2.1 e.1 e.2.1 = true
  exa : ∀ e ∈ alls, exaB K e.1 = true ∧ (He.Fa.glo e.1).ok K = true
  exs' : exsB K = true
  funs' : ∀ x ∈ funs, (He.Fa.glo x).ok K = true
  free : ∀ x ∈ frees, (He.Fa.free x).ok K = true
  nums' : ∀ e ∈ nums, (He.Fa.int e.1 e.2).ok K = true
  tups' : ∀ e ∈ tups, (He.Fa.glo e.1).ok K = true ∧ He.tupB K e.1 (e.2.map He.Dv.str) = true
  mros' : mros K = true
  sm : (K.lookup sysModules).isSome = true
theorem partsF (c : SaysM F fn K) : Parts K := by
  obtain ⟨z1, z⟩ := He.ba c.fact
  obtain ⟨z2, z⟩ := He.ba z
  obtain ⟨z3, z⟩ := He.ba z
  obtain ⟨z4, z⟩ := He.ba z
  obtain ⟨z5, z⟩ := He.ba z
  obtain ⟨z6, z⟩ := He.ba z
  obtain ⟨z7, z⟩ := He.ba z
  obtain ⟨z8, z9⟩ := He.ba z
  exact ⟨fun e he => allB z1 he, fun e he => He.ba (allB z2 he), z3, fun x hx => allB z4 hx, fun x hx => allB z5 hx, fun e he => allB z6 he, fun e he => He.ba (allB z7 he), z8, z9⟩
theorem dvs_strs {H : Hp} : ∀ l : List Str, DvAll H ((l.map He.Dv.str).map (He.Dv.v K)) (strsD l)
  | [] => .nil
  | _ :: l => .cons (.str _) (dvs_strs l)
theorem writ_of (X : K.In h) (G : h.Ns mainGlobals mg) (c : Parts K) {x : Str} {l : List Str} (hx : (x, l) ∈ tups) : Writ K mg x (He.ga K x) (strsD l) :=
  ⟨He.glo_ok X G (c.tups' _ hx).1, _, fun H => He.tupB_ok (c.tups' _ hx).2 H, fun _ => dvs_strs l⟩
theorem mro_ok {x : Str} {l : List Value} (h : mroB K x l = true) : (∃ cd, PySem.W.clsIn K (He.ga K x) = some cd ∧ cd.mro = l) ∧ PySem.W.typeIn K (.ref (He.ga K x)) = some (.type "type") := by
  obtain ⟨z1, z2⟩ := He.ba h
  refine ⟨?_, of_decide_eq_true z2⟩
  cases w : PySem.W.clsIn K (He.ga K x) with
  | none =>
    rw [w] at z1
    cases z1
  | some cd =>
    rw [w] at z1
    exact ⟨cd, rfl, of_decide_eq_true z1⟩
theorem sub_ok {x : Str} {v0 : Value} {l : List Value} (h : mroB K x (v0 :: l) = true) (v : Value) : PySem.W.subIn K (.ref (He.ga K x)) v = some ((v0 :: l).contains v) := by
  obtain ⟨⟨cd, hc, hm⟩, _⟩ := mro_ok h
  show (PySem.W.clsIn K (He.ga K x)).bind _ = _
  rw [hc]
  show (if cd.mro.isEmpty then none else some (cd.mro.contains v)) = _
  rw [hm] <;> rfl
theorem kit_ok {x y : Str} {v0 w0 : Value} {l m : List Value} (h : mroB K x (v0 :: l) = true) (g : mroB K y (w0 :: m) = true) : PySem.W.kitCls K (.ref (He.ga K x)) (.ref (He.ga K y)) = some ((v0 :: l).contains (.ref (He.ga K y))) := by
  obtain ⟨⟨cd, hc, _⟩, ht⟩ := mro_ok g
  unfold PySem.W.kitCls
  show (if ((PySem.W.clsIn K (He.ga K y)).isSome && PySem.W.typeIn K (.ref (He.ga K y)) == some (.type "type")) = true then PySem.W.subIn K (.ref (He.ga K x)) (.ref (He.ga K y)) else none) = _
  rw [hc, ht]
  exact sub_ok h _
theorem exm_ok {x y : Str} {v0 : Value} {l : List Value} {k : Kin} (h : mroB K x (v0 :: l) = true) (g : mroB K y (.ref (He.ga K y) :: k.mro) = true) : PySem.W.exmOne K (.ref (He.ga K x)) (.ref (He.ga K y)) = some ((v0 :: l).contains (.ref (He.ga K y))) := by
  unfold PySem.W.exmOne
  have e : PySem.W.subIn K (.ref (He.ga K y)) (.type "BaseException") = some true := by
    rw [sub_ok g]
    cases k <;> rfl
  rw [e]
  show (if (some true == some true) = true then _ else none) = _
  rw [if_pos (by decide)]
  exact kit_ok h g
abbrev lst0 (K : PySem.W.Frag) (x : Str) : List Value := .ref (He.ga K x) :: .ref (He.ga K "WrongValue") :: Kin.v.mro
theorem mro_x (c : Parts K) {x : Str} (h : x = "InvalidProfile" ∨ x = "InvalidRule") : mroB K x (lst0 K x) = true := by
  have z := (He.ba c.mros').1
  rcases h with rfl | rfl
  · exact allB z (x := ex1 "InvalidProfile" "given" .v 2) (by unfold exs; exact .head _)
  · exact allB z (x := ex1 "InvalidRule" "given" .v 3) (by unfold exs; exact .tail _ (.head _))
theorem mro_b (c : Parts K) : mroB K "WrongValue" (.ref (He.ga K "WrongValue") :: Kin.v.mro) = true ∧ mroB K "WrongName" (.ref (He.ga K "WrongName") :: Kin.l.mro) = true ∧ mroB K "NotPossible" (.ref (He.ga K "NotPossible") :: Kin.a.mro) = true ∧ He.ga K "InvalidProfile" ≠ He.ga K "InvalidRule" := by
  obtain ⟨z, n⟩ := He.ba (He.ba c.mros').2
  refine ⟨allB z (x := al1 "WrongValue" .v) (.head _), allB z (x := al1 "WrongName" .l) (.tail _ (.head _)), allB z (x := al1 "NotPossible" .a) (.tail _ (.tail _ (.head _))), fun e => ?_⟩
  rw [e] at n
  simp at n
theorem len_ne {x y : Str} {l m : List Value} (h : mroB K x l = true) (g : mroB K y m = true) (n : l.length ≠ m.length) : He.ga K x ≠ He.ga K y := fun e => by
  obtain ⟨⟨cd, h1, h2⟩, _⟩ := mro_ok h
  obtain ⟨⟨cd', h1', h2'⟩, _⟩ := mro_ok g
  rw [e, h1'] at h1
  cases h1
  exact n (congrArg List.length (h2.symm.trans h2'))
theorem con_ne {x y : Str} {l m : List Value} (h : mroB K x l = true) (g : mroB K y m = true) (v : Value) (h1 : l.contains v = true) (h2 : m.contains v = false) : He.ga K x ≠ He.ga K y := fun e => by
  obtain ⟨⟨cd, q1, q2⟩, _⟩ := mro_ok h
  obtain ⟨⟨cd', q1', q2'⟩, _⟩ := mro_ok g
  rw [e, q1'] at q1
  cases q1
  rw [← q2, q2', h2] at h1
  cases h1
theorem hx_of (X : K.In h) (G : h.Ns mainGlobals mg) (c : Parts K) : Hx K mg (He.ga K "InvalidProfile") (He.ga K "InvalidRule") (He.ga K "WrongValue") (He.ga K "WrongName") (He.ga K "NotPossible") := by
  have gl : ∀ e ∈ alls, mg e.1 = some (.ref (He.ga K e.1)) := fun e he => He.glo_ok X G (c.exa e he).2
  have fr : ∀ x : Str, x ∈ frees → mg x = none := fun x hx => He.free_ok X G (c.free x hx)
  obtain ⟨bv, bn, bp, ne⟩ := mro_b c
  have nm : ∀ C, C = He.ga K "InvalidProfile" ∨ C = He.ga K "InvalidRule" → ∃ x : Str, (x = "InvalidProfile" ∨ x = "InvalidRule") ∧ C = He.ga K x := fun C hC => hC.elim (fun e => ⟨_, .inl rfl, e⟩) fun e => ⟨_, .inr rfl, e⟩
  have n3 : ∀ a : Addr, Kin.v.mro.contains (.ref a) = false := fun a => rfl
  have nb : ∀ x : Str, (x = "InvalidProfile" ∨ x = "InvalidRule") → He.ga K x ≠ He.ga K "WrongValue" := fun x hx => len_ne (mro_x c hx) bv (by show ¬ (2 + Kin.v.mro.length = 1 + Kin.v.mro.length); omega)
  have con : ∀ (x : Str) (a : Addr), (lst0 K x).contains (.ref a) = (decide (a = He.ga K x) || decide (a = He.ga K "WrongValue")) := fun x a => by
    rw [List.contains_cons, List.contains_cons, beq_ref, beq_ref, n3, Bool.or_false]
  -- one of the classes that are asked for
  have one : ∀ (x : Str) (v : Value), (∀ a, v ≠ .ref a) → PySem.W.kitMeta (match v with | .type T => T | _ => "") = true → (∃ T, v = .type T) → PySem.W.kitOne K (.ref (He.ga K x)) v = PySem.W.subIn K (.ref (He.ga K x)) v := fun x v n k ⟨T, e⟩ => by
    subst e
    unfold PySem.W.kitOne
    rw [if_neg (by rw [show ((Value.ref (He.ga K x)) == (Value.type T)) = false from beq_eq_false_iff_ne.mpr fun z => nomatch z]; decide)]
    show (if PySem.W.kitMeta T = true then PySem.W.subIn K (.ref (He.ga K x)) (.type T) else none) = _
    rw [if_pos k]
  have ref : ∀ (x y : Str) (w0 : Value) (m : List Value), (x = "InvalidProfile" ∨ x = "InvalidRule") → mroB K y (w0 :: m) = true → PySem.W.kitOne K (.ref (He.ga K x)) (.ref (He.ga K y)) = some (decide (He.ga K y = He.ga K x) || decide (He.ga K y = He.ga K "WrongValue")) := fun x y w0 m hx hy => by
    unfold PySem.W.kitOne
    rw [beq_ref]
    by_cases e : He.ga K x = He.ga K y
    · rw [if_pos (decide_eq_true e), decide_eq_true e.symm, Bool.true_or]
    · rw [if_neg (by simpa using e), kit_ok (mro_x c hx) hy, con]
  have nxN : ∀ x : Str, (x = "InvalidProfile" ∨ x = "InvalidRule") → He.ga K "WrongName" ≠ He.ga K x := fun x hx => con_ne bn (mro_x c hx) (.type "LookupError") rfl rfl
  have nxP : ∀ x : Str, (x = "InvalidProfile" ∨ x = "InvalidRule") → He.ga K "NotPossible" ≠ He.ga K x := fun x hx => con_ne bp (mro_x c hx) (.type "ArithmeticError") rfl rfl
  have ty : ∀ (x : Str) (T : String) (b : Bool), (x = "InvalidProfile" ∨ x = "InvalidRule") → PySem.W.kitMeta T = true → Kin.v.mro.contains (.type T) = b → PySem.W.kitOne K (.ref (He.ga K x)) (.type T) = some b := fun x T b hx k e => by
    rw [one x (.type T) (fun _ z => nomatch z) k ⟨T, rfl⟩, sub_ok (mro_x c hx), List.contains_cons, List.contains_cons, e]
    rw [show ((Value.type T) == (Value.ref (He.ga K x))) = false from beq_eq_false_iff_ne.mpr fun z => nomatch z, show ((Value.type T) == (Value.ref (He.ga K "WrongValue"))) = false from beq_eq_false_iff_ne.mpr fun z => nomatch z] <;> rfl
  have neN : He.ga K "WrongName" ≠ He.ga K "WrongValue" := con_ne bn bv (.type "LookupError") rfl rfl
  have neP : He.ga K "NotPossible" ≠ He.ga K "WrongValue" := con_ne bp bv (.type "ArithmeticError") rfl rfl
  refine ⟨gl (al1 "InvalidProfile" .v) (by unfold alls; exact .head _), gl (al1 "InvalidRule" .v) (by unfold alls; exact .tail _ (.head _)), gl (al1 "WrongValue" .v) (by unfold alls; exact .tail _ (.tail _ (.head _))), gl (al1 "WrongName" .l) (by unfold alls; exact .tail _ (.tail _ (.tail _ (.head _)))), gl (al1 "NotPossible" .a) (by unfold alls; exact .tail _ (.tail _ (.tail _ (.tail _ (.head _))))),
    fr _ (by decide +kernel), fr _ (by decide +kernel), fr _ (by decide +kernel), fun C hC => ?_, fun C hC => ?_, fun C hC => ?_, fun C hC => ?_, fun C hC => ?_, fun C hC => ?_, fun C hC => ?_, fun C hC => ?_, fun C hC => ?_, fun C hC => ?_, fun C hC => ?_, ne⟩
  · obtain ⟨x, hx, rfl⟩ := nm C hC
    rcases hx with rfl | rfl
    · exact exaB_ok (c.exa (al1 "InvalidProfile" .v) (by unfold alls; exact .head _)).1 c.exs'
    · exact exaB_ok (c.exa (al1 "InvalidRule" .v) (by unfold alls; exact .tail _ (.head _))).1 c.exs'
  · obtain ⟨x, hx, rfl⟩ := nm C hC
    rcases hx with rfl | rfl
    · exact (exkB_ok (c.exk (ex1 "InvalidProfile" "given" .v 2) (by unfold exs; exact .head _))).noF
    · exact (exkB_ok (c.exk (ex1 "InvalidRule" "given" .v 3) (by unfold exs; exact .tail _ (.head _)))).noF
  · obtain ⟨x, hx, rfl⟩ := nm C hC
    rw [ref x "InvalidProfile" _ _ hx (mro_x c (.inl rfl)), decide_eq_false (nb _ (.inl rfl)), Bool.or_false]
    exact congrArg some (decide_eq_decide.mpr ⟨fun e => e.symm, fun e => e.symm⟩)
  · obtain ⟨x, hx, rfl⟩ := nm C hC
    rw [ref x "InvalidRule" _ _ hx (mro_x c (.inr rfl)), decide_eq_false (nb _ (.inr rfl)), Bool.or_false]
    exact congrArg some (decide_eq_decide.mpr ⟨fun e => e.symm, fun e => e.symm⟩)
  · obtain ⟨x, hx, rfl⟩ := nm C hC
    rw [ref x "WrongValue" _ _ hx bv, decide_eq_true rfl, Bool.or_true]
  · obtain ⟨x, hx, rfl⟩ := nm C hC
    rw [ref x "WrongName" _ _ hx bn, decide_eq_false (nxN x hx), decide_eq_false neN] <;> rfl
  · obtain ⟨x, hx, rfl⟩ := nm C hC
    rw [ref x "NotPossible" _ _ hx bp, decide_eq_false (nxP x hx), decide_eq_false neP] <;> rfl
  · obtain ⟨x, hx, rfl⟩ := nm C hC
    exact ty x "ValueError" true hx (by decide +kernel) rfl
  · obtain ⟨x, hx, rfl⟩ := nm C hC
    exact ty x "LookupError" false hx (by decide +kernel) rfl
  · obtain ⟨x, hx, rfl⟩ := nm C hC
    exact ty x "ArithmeticError" false hx (by decide +kernel) rfl
  · obtain ⟨x, hx, rfl⟩ := nm C hC
    unfold PySem.W.exmAny
    rw [exm_ok (mro_x c hx) bv]
    unfold PySem.W.exmAny
    rw [exm_ok (mro_x c hx) bn]
    unfold PySem.W.exmAny
    rw [exm_ok (mro_x c hx) bp]
    unfold PySem.W.exmAny
    have t : (lst0 K x).contains (Value.ref (He.ga K "WrongValue")) = true := by
      rw [con, decide_eq_true rfl, Bool.or_true]
    show some ((lst0 K x).contains (Value.ref (He.ga K "WrongValue")) || _) = some true
    rw [t] <;> rfl
theorem rz_InvalidProfile (X : K.In h) (G : h.Ns mainGlobals mg) (s : SaysM F fn K) (c : Parts K) : Rz K mg "InvalidProfile" (He.ga K "InvalidProfile") := by
  have gl : ∀ e ∈ alls, mg e.1 = some (.ref (He.ga K e.1)) := fun e he => He.glo_ok X G (c.exa e he).2
  refine ⟨?_, ?_, (mro_ok (mro_x c (.inl rfl))).2⟩
  · obtain ⟨fd, Fi⟩ := s.fun_ 27 (st := inClass (topS 2) 0) (p := ("InvalidProfile", some "__init__")) (x := "__init__") (q := "InvalidProfile.__init__") rfl
    refine ⟨⟨_, _, _, _, _, _, fd, exkB_ok (c.exk (ex1 "InvalidProfile" "given" .v 2) (by unfold exs; exact (.head _))), .inl rfl, init_of Fi rfl rfl, ?_, ?_⟩, gl (al1 "InvalidProfile" .v) (by unfold alls; exact (.head _))⟩
    · obtain ⟨oc, od, kV, doc, pm, an, cdv, ct, osl, rfl, lk, hcd⟩ := Fi.ex
      exact fun u s y => .of_eq rfl
    · obtain ⟨oc, od, kV, doc, pm, an, cdv, ct, osl, rfl, lk, hcd⟩ := Fi.ex
      exact fun u s y => .of_eq rfl
  · rw [sub_ok (mro_x c (.inl rfl))] <;> rfl
theorem rz_InvalidRule (X : K.In h) (G : h.Ns mainGlobals mg) (s : SaysM F fn K) (c : Parts K) : Rz K mg "InvalidRule" (He.ga K "InvalidRule") := by
  have gl : ∀ e ∈ alls, mg e.1 = some (.ref (He.ga K e.1)) := fun e he => He.glo_ok X G (c.exa e he).2
  refine ⟨?_, ?_, (mro_ok (mro_x c (.inr rfl))).2⟩
  · obtain ⟨fd, Fi⟩ := s.fun_ 28 (st := inClass (topS 3) 0) (p := ("InvalidRule", some "__init__")) (x := "__init__") (q := "InvalidRule.__init__") rfl
    refine ⟨⟨_, _, _, _, _, _, fd, exkB_ok (c.exk (ex1 "InvalidRule" "given" .v 3) (by unfold exs; exact (.tail _ (.head _)))), .inl rfl, init_of Fi rfl rfl, ?_, ?_⟩, gl (al1 "InvalidRule" .v) (by unfold alls; exact (.tail _ (.head _)))⟩
    · obtain ⟨oc, od, kV, doc, pm, an, cdv, ct, osl, rfl, lk, hcd⟩ := Fi.ex
      exact fun u s y => .of_eq rfl
    · obtain ⟨oc, od, kV, doc, pm, an, cdv, ct, osl, rfl, lk, hcd⟩ := Fi.ex
      exact fun u s y => .of_eq rfl
  · rw [sub_ok (mro_x c (.inr rfl))] <;> rfl
/-- a def's code object -/
theorem code_at {x qual : Str} {st : Stmt} {fd : FuncData} {p : Str × Option Str} {f : Addr} (F : Fun K x qual st f fd) (e : f = He.fAd K p) : ∃ c, fd.code = .ref c ∧ (He.cT K p).1 = c := by
  subst e
  obtain ⟨oc, od, kV, doc, pm, an, cdv, ct, osl, rfl, lk, hcd⟩ := F.ex
  obtain ⟨c, rfl⟩ := He.codeIn_ref hcd
  exact ⟨c, rfl, He.codeOf_eq lk rfl⟩
end
section
variable {P : Program} {w : World} {K : PySem.W.Frag} {h : Heap} {mg : Str → Option Value} {f : Addr}
theorem facts (X : K.In h) (G : h.Ns mainGlobals mg) (hfa : mg ("law" : Str) = some (.ref f)) (s : SaysM F fn K) :
    ∃ fd : FuncData, (∀ (s : Shared) (v : Value), BindsTo s fd ⟨[v], []⟩ [("_law_script", v)]) ∧
      ∀ base : Heap, K.In base → base.Ns mainGlobals mg → (∀ p ∈ tf.map (He.cT K), TabB base mg p.1 p.2) → FnG P w K mg base CX0 11 f fd ["_law_script"] (spLaw K (tabL K)) := by
  have c := partsF s
  have fr : ∀ x : Str, x ∈ frees → mg x = none := fun x hx => He.free_ok X G (c.free x hx)
  have B : Gls mg := ⟨fr _ (by decide +kernel), fr _ (by decide +kernel), fr _ (by decide +kernel), fr _ (by decide +kernel), fr _ (by decide +kernel), fr _ (by decide +kernel), fr _ (by decide +kernel), fr _ (by decide +kernel), fr _ (by decide +kernel), fr _ (by decide +kernel), fr _ (by decide +kernel), fr _ (by decide +kernel), fr _ (by decide +kernel), fr _ (by decide +kernel), fr _ (by decide +kernel), fr _ (by decide +kernel), fr _ (by decide +kernel), fr _ (by decide +kernel), fr _ (by decide +kernel), fr _ (by decide +kernel), fr _ (by decide +kernel)⟩
  have WL := writ_of X G c (x := "LETTERS") (l := letters) (by unfold tups; exact .head _)
  have WO := writ_of X G c (x := "ORDERS") (l := orders) (by unfold tups; exact .tail _ (.head _))
  have WR := writ_of X G c (x := "_RULES") (l := rules) (by unfold tups; exact .tail _ (.tail _ (.head _)))
  have mv : ∃ t, mg "MOST_VOTERS" = some (.int 60 t) := He.int_ok X G (c.nums' ("MOST_VOTERS", 60) (.head _))
  have TH := hx_of X G c
  have RP := rz_InvalidProfile X G s c
  have RR := rz_InvalidRule X G s c
  have SM := Option.isSome_iff_exists.mp c.sm
  have gl : ∀ x : Str, x ∈ funs → mg x = some (.ref (He.ga K x)) := fun x hx => He.glo_ok X G (c.funs' x hx)
  obtain ⟨fd0, F0⟩ := s.fun_ 0 (st := s_is_integer) (p := ("is_integer", none)) (x := "is_integer") (q := "is_integer") rfl
  obtain ⟨fd1, F1⟩ := s.fun_ 1 (st := s_is_number) (p := ("is_number", none)) (x := "is_number") (q := "is_number") rfl
  obtain ⟨fd2, F2⟩ := s.fun_ 2 (st := s_are_numbers) (p := ("are_numbers", none)) (x := "are_numbers") (q := "are_numbers") rfl
  obtain ⟨fd3, F3⟩ := s.fun_ 3 (st := s_need_profile) (p := ("need_profile", none)) (x := "need_profile") (q := "need_profile") rfl
  obtain ⟨fd4, F4⟩ := s.fun_ 4 (st := s_put_at) (p := ("put_at", none)) (x := "put_at") (q := "put_at") rfl
  obtain ⟨fd5, F5⟩ := s.fun_ 5 (st := s_put_ahead) (p := ("put_ahead", none)) (x := "put_ahead") (q := "put_ahead") rfl
  obtain ⟨fd6, F6⟩ := s.fun_ 6 (st := s_firsts_of) (p := ("firsts_of", none)) (x := "firsts_of") (q := "firsts_of") rfl
  obtain ⟨fd7, F7⟩ := s.fun_ 7 (st := s_need_rule) (p := ("_need_rule", none)) (x := "_need_rule") (q := "_need_rule") rfl
  obtain ⟨fd8, F8⟩ := s.fun_ 8 (st := s_worths) (p := ("_worths", none)) (x := "_worths") (q := "_worths") rfl
  obtain ⟨fd9, F9⟩ := s.fun_ 9 (st := s_is_ahead) (p := ("_is_ahead", none)) (x := "_is_ahead") (q := "_is_ahead") rfl
  obtain ⟨fd10, F10⟩ := s.fun_ 10 (st := s_iwinners) (p := ("_winners", none)) (x := "_winners") (q := "_winners") rfl
  obtain ⟨fd11, F11⟩ := s.fun_ 11 (st := s_winners) (p := ("winners", none)) (x := "winners") (q := "winners") rfl
  obtain ⟨fd12, F12⟩ := s.fun_ 12 (st := s_lwell) (p := ("_law_well", none)) (x := "_law_well") (q := "_law_well") rfl
  obtain ⟨fd13, F13⟩ := s.fun_ 13 (st := s_ldraw) (p := ("_law_draw", none)) (x := "_law_draw") (q := "_law_draw") rfl
  obtain ⟨fd14, F14⟩ := s.fun_ 14 (st := s_lof) (p := ("_law_of", none)) (x := "_law_of") (q := "_law_of") rfl
  obtain ⟨fd15, F15⟩ := s.fun_ 15 (st := s_lodd) (p := ("_law_odd", none)) (x := "_law_odd") (q := "_law_odd") rfl
  obtain ⟨fd16, F16⟩ := s.fun_ 16 (st := s_lprofile) (p := ("_law_profile", none)) (x := "_law_profile") (q := "_law_profile") rfl
  obtain ⟨fd17, F17⟩ := s.fun_ 17 (st := s_lsum) (p := ("_law_sum", none)) (x := "_law_sum") (q := "_law_sum") rfl
  obtain ⟨fd18, F18⟩ := s.fun_ 18 (st := s_lwon) (p := ("_law_won", none)) (x := "_law_won") (q := "_law_won") rfl
  obtain ⟨fd19, F19⟩ := s.fun_ 19 (st := s_lled) (p := ("_law_led", none)) (x := "_law_led") (q := "_law_led") rfl
  obtain ⟨fd20, F20⟩ := s.fun_ 20 (st := s_lword) (p := ("_law_word", none)) (x := "_law_word") (q := "_law_word") rfl
  obtain ⟨fd21, F21⟩ := s.fun_ 21 (st := s_lheard) (p := ("_law_heard", none)) (x := "_law_heard") (q := "_law_heard") rfl
  obtain ⟨fd22, F22⟩ := s.fun_ 22 (st := s_lall_end) (p := ("_law_all_end", none)) (x := "_law_all_end") (q := "_law_all_end") rfl
  obtain ⟨fd23, F23⟩ := s.fun_ 23 (st := s_lis_profile) (p := ("_law_is_profile", none)) (x := "_law_is_profile") (q := "_law_is_profile") rfl
  obtain ⟨fd24, F24⟩ := s.fun_ 24 (st := s_lrefused_right) (p := ("_law_refused_right", none)) (x := "_law_refused_right") (q := "_law_refused_right") rfl
  obtain ⟨fd25, F25⟩ := s.fun_ 25 (st := s_lright) (p := ("_law_right", none)) (x := "_law_right") (q := "_law_right") rfl
  obtain ⟨fd26, F26⟩ := s.fun_ 26 (st := s_law) (p := ("law", none)) (x := "law") (q := "law") rfl
  obtain ⟨c24, hc24, e24⟩ := code_at F24 rfl
  have e := hfa.symm.trans (gl "law" (by decide +kernel))
  cases e
  refine ⟨fd26, fun s v => ?_, fun base _ _ TB => ?_⟩
  · obtain ⟨oc, od, kV, doc, pm, an, cdv, ct, osl, rfl, lk, hcd⟩ := F26.ex
    exact .of_eq rfl
  generalize hCP : He.ga K "InvalidProfile" = CP at *
  generalize hCR : He.ga K "InvalidRule" = CR at *
  have TBs : ∀ p ∈ ([(c24, (He.cT K ("_law_refused_right", none)).2)] : List (Addr × Addr)), TabB base mg p.1 p.2 := by
    rw [← e24]
    exact TB
  have u1 : ∀ p ∈ tabL K, p.1 = (He.cT K ("_law_refused_right", none)).2 → p.2 = lamN "_law_refused_right" s_lrefused_right := by
    intro p hp
    unfold tabL at hp
    simp only [List.mem_cons, List.not_mem_nil, or_false] at hp
    subst hp
    exact fun _ => rfl
  have D0 := Call.of F0 (ok_is_integer (P := P) (w := w) (base := base) F0 SM B) (gl "is_integer" (by decide +kernel)) (fun kV doc pm an cdv ct us hl => match us, hl with | [u], _ => rfl)
  have D1 := Call.of F1 (ok_is_number D0 F1 SM B) (gl "is_number" (by decide +kernel)) (fun kV doc pm an cdv ct us hl => match us, hl with | [u], _ => rfl)
  have D2 := Call.of F2 (ok_are_numbers D1 F2 SM B 6 (by decide)) (gl "are_numbers" (by decide +kernel)) (fun kV doc pm an cdv ct us hl => match us, hl with | [u, v], _ => rfl)
  have D3 := Call.of F3 (ok_need_profile WO RP mv D2 F3 SM B) (gl "need_profile" (by decide +kernel)) (fun kV doc pm an cdv ct us hl => match us, hl with | [u], _ => rfl)
  have D4 := Call.of F4 (ok_put_at (P := P) (w := w) (base := base) WO F4 SM B) (gl "put_at" (by decide +kernel)) (fun kV doc pm an cdv ct us hl => match us, hl with | [u, v, x1], _ => rfl)
  have D5 := Call.of F5 (ok_put_ahead (P := P) (w := w) (base := base) WO F5 SM B) (gl "put_ahead" (by decide +kernel)) (fun kV doc pm an cdv ct us hl => match us, hl with | [u, v, x1], _ => rfl)
  have D6 := Call.of F6 (ok_firsts_of WL D4 F6 SM B) (gl "firsts_of" (by decide +kernel)) (fun kV doc pm an cdv ct us hl => match us, hl with | [u], _ => rfl)
  have D7 := Call.of F7 (ok_need_rule (P := P) (w := w) (base := base) WR RR F7 SM B) (gl "_need_rule" (by decide +kernel)) (fun kV doc pm an cdv ct us hl => match us, hl with | [u], _ => rfl)
  have D8 := Call.of F8 (ok_worths WL D4 D6 F8 SM B) (gl "_worths" (by decide +kernel)) (fun kV doc pm an cdv ct us hl => match us, hl with | [u, v], _ => rfl)
  have D9 := Call.of F9 (ok_is_ahead WL D5 F9 SM B) (gl "_is_ahead" (by decide +kernel)) (fun kV doc pm an cdv ct us hl => match us, hl with | [u, v], _ => rfl)
  have D10 := Call.of F10 (ok_iwinners WL D9 D8 F10 SM B) (gl "_winners" (by decide +kernel)) (fun kV doc pm an cdv ct us hl => match us, hl with | [u, v], _ => rfl)
  have okW := ok_winners D3 D7 D10 F11 SM B
  have D11 := Call.of F11 (okW) (gl "winners" (by decide +kernel)) (fun kV doc pm an cdv ct us hl => match us, hl with | [u, v], _ => rfl)
  have D11R : CallR P w K mg base (L2.CX P w) 5 "winners" ["profile", "rule"] (spF 2 (fun _ => True) fun ds => winO CP CR ds) ["rule", "profile"] := by
    refine ⟨_, fd11, okW, (gl "winners" (by decide +kernel)), F11.kp, fun s us hl => ?_⟩
    obtain ⟨oc, od, kV, doc, pm, an, cdv, ct, osl, rfl, lk, hcd⟩ := F11.ex
    match us, hl with
    | [u, v], _ => exact .of_eq rfl
  have D12 := Call.of F12 (.of (ok_well (P := P) (w := w) (base := base) F12 B)) (gl "_law_well" (by decide +kernel)) (fun kV doc pm an cdv ct us hl => match us, hl with | [u, v], _ => rfl)
  have D13 := Call.of F13 (ok_draw (P := P) (w := w) (base := base) F13 SM B) (gl "_law_draw" (by decide +kernel)) (fun kV doc pm an cdv ct us hl => match us, hl with | [u, v], _ => rfl)
  have D14 := Call.of F14 (ok_of D13 F14 SM B) (gl "_law_of" (by decide +kernel)) (fun kV doc pm an cdv ct us hl => match us, hl with | [u, v], _ => rfl)
  have D15 := Call.of F15 (ok_odd D14 F15 SM B) (gl "_law_odd" (by decide +kernel)) (fun kV doc pm an cdv ct us hl => match us, hl with | [u], _ => rfl)
  have D16 := Call.of F16 (ok_profile D13 F16 SM B) (gl "_law_profile" (by decide +kernel)) (fun kV doc pm an cdv ct us hl => match us, hl with | [u], _ => rfl)
  have D17 := Call.of F17 (ok_sum (P := P) (w := w) (base := base) F17 SM B) (gl "_law_sum" (by decide +kernel)) (fun kV doc pm an cdv ct us hl => match us, hl with | [u, v], _ => rfl)
  have D18 := Call.of F18 (ok_won D17 F18 SM B) (gl "_law_won" (by decide +kernel)) (fun kV doc pm an cdv ct us hl => match us, hl with | [u, v], _ => rfl)
  have D19 := Call.of F19 (ok_led (P := P) (w := w) (base := base) F19 SM B) (gl "_law_led" (by decide +kernel)) (fun kV doc pm an cdv ct us hl => match us, hl with | [u, v], _ => rfl)
  have D20 : CallE P w K mg base 1 "_law_word" ["_law_e"] (spE (preWord K CP CR)) := ⟨_, fd20, ok_word TH F20 SM B, (gl "_law_word" (by decide +kernel)), F20.kp, F20.binds (fun kV doc pm an cdv ct us hl => match us, hl with | [u], _ => rfl)⟩
  have D21 := Call.of F21 (ok_heard TH D20 F21 SM B) (gl "_law_heard" (by decide +kernel)) (fun kV doc pm an cdv ct us hl => match us, hl with | [u], _ => rfl)
  have D22 := Call.of F22 (ok_all_end D21 F22 SM B) (gl "_law_all_end" (by decide +kernel)) (fun kV doc pm an cdv ct us hl => match us, hl with | [u, v], _ => rfl)
  have D23 := Call.of F23 (ok_is_profile (P := P) (w := w) (base := base) F23 SM B) (gl "_law_is_profile" (by decide +kernel)) (fun kV doc pm an cdv ct us hl => match us, hl with | [u], _ => rfl)
  have D24 := Call.of F24 (ok_refused TH.ne F24 hc24 SM B (TBs _ (.head _)) (.head _) u1 D13 D14 D15 D23 D11 D11R D18 D22) (gl "_law_refused_right" (by decide +kernel)) (fun kV doc pm an cdv ct us hl => match us, hl with | [u, v], _ => rfl)
  have D25 := Call.of F25 (ok_right D14 D16 D19 D18 D11 D11R D24 F25 SM B) (gl "_law_right" (by decide +kernel)) (fun kV doc pm an cdv ct us hl => match us, hl with | [u], _ => rfl)
  exact ok_law F26 B D12 D25
end
end K75
end
namespace K75
open PySem PySem.Spec PyProof.Rows L2 Tc
open LamX (Tabs TabS)
theorem tabs0 {K : PySem.W.Frag} {H : Hp} (h : ∀ p ∈ tf.map (He.cT K), H p.2 = some (.tbl #[])) : Tabs (tabL K) H := by
  intro p hp
  unfold tabL at hp
  simp only [List.mem_cons, List.not_mem_nil, or_false] at hp
  subst hp
  exact TabS.nil (h (He.cT K ("_law_refused_right", none)) (.head _))
end K75
open PySem PySem.W PySem.Calls PyProof.Rows
theorem PySem.Challenge.cw_toldcounts_k75_whole_winners_by_rules_holds : PySem.Challenge.rw_toldcounts_k75_whole_winners_by_rules.Holds := by
  w_on; o_law
  refine HandSHeadRun.head_any (r := OpenLaw.row PySem.Challenge.rw_toldcounts_k75_whole_winners_by_rules) (q := view K75.R.prog [40]) (H := K75.hk) (ob := K75.ob)
    (M := 14000) (loose := K75.loose) (d := HandSHeadRun.topDef K75.R.prog 40) (kwd := []) K75.ob_eq
    (by kernel_rfl) (fun s => by kernel_rfl) K75.run (by kernel_rfl) (by kernel_rfl) (by kernel_rfl) (by rfl) (by first | assumption | decide +kernel) (by decide +kernel)
    ⟨rfl, rfl, rfl, rfl, rfl, by decide +kernel⟩ ?hw ?hc
  case hw => w_witness2
  case hc =>
    refine Tc.walk_endTG (l := PySem.Challenge.rw_toldcounts_k75_whole_winners_by_rules) (n := 63) (k := 11) (x := "_law_script") (CX := fun _ => L2.CX0)
      rfl (by decide) (by kernel_rfl) ⟨rfl, by decide, by decide⟩ ?F (fun _ _ _ _ _ z => z)
    intro w mg fa h Y G hmg0
    obtain ⟨K, KX, c⟩ := Y
    have nm : (HandSHeadRun.topDef K75.R.prog 40).name = ("law" : PySem.Str) := by kernel_rfl
    rw [nm] at hmg0
    obtain ⟨fd, hb, hF⟩ := K75.facts (P := (PySem.Challenge.rw_toldcounts_k75_whole_winners_by_rules).prog) (w := w) KX G hmg0 c.core
    refine ⟨K, fd, K75.tf.map (He.cT K), K75.spLaw K (K75.tabL K), KX, hb, ⟨fun p hp => ?_, fun p hp => ?_, fun p hp => ?_⟩, hF, fun H a ns hl hT hS => ⟨a, ns, rfl, hS, hl, K75.tabs0 hT, fun _ => rfl⟩⟩
    · obtain ⟨q, hq, rfl⟩ := List.mem_map.mp hp
      exact c.empty q hq
    · obtain ⟨q, hq, rfl⟩ := List.mem_map.mp hp
      exact c.out q hq
    · obtain ⟨q, hq, rfl⟩ := List.mem_map.mp hp
      exact PySem.W.codeHd_of_K KX (c.hd q hq)
