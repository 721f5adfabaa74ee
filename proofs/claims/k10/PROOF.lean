import PyProof.Rows.All
import Wide.All
import OpenK.AllK
import Wide.FinOn
import HandS.ForMost
import HandS.Wide
import HandS.Codes
import HandS.IsInst
import HandS.TupAny
import HandS.Flow
import HandS.Walk
import HandS.Evl
import HandS.Strs
import PyProof.P3Eq
import PyProof.ReprLen
import HandS.Style
import HandS.Dict
import HandS.More
import PySem.Challenge.RW_enoughhands_k10_whole_levels_and_least_s
import HandS.DictComp
import HandS.Conv
import PyProof.Rows.TmSorted
import PyProof.Rows.StrMeet
set_option Elab.async false
set_option linter.all false
set_option maxRecDepth 100000
set_option maxHeartbeats 4000000
/-! Promises of defs that are called where no repr is under way: FnG, and the rules that make and use them. -/
namespace VG
open PySem PySem.Spec PyProof.Rows L2
abbrev St := L2.St

/-- no guard is on the stack -/
abbrev Calm (A : Around) : Prop := A.guards = some []

structure FnG (P : Program) (w : World) (K : PySem.W.Frag) (mg : Str → Option Value)
    (base : Heap) (CX : CXT) (k : Nat) (f : Addr) (fd : FuncData) (ps : List Str) (sp : Sp) : Prop where
  same : ∀ vs H Q E, sp vs H Q E → vs.length = ps.length
  goes : ∀ (A : Around) (outer : List Env) (s : Shared) (H : Hp) (args : Args) (us : List Value) (vs : List V) (Q : VK) (E : XK),
    Calm A → Room k A → Env0 P w K mg base A outer s H →
    BindsTo s fd args (ps.zip us) → Vals vs us → sp vs H Q E →
    codeAny (model P w) A (.call (.ref f) args) (CR CX outer P w H s Q E) s

section
variable {P : Program} {w : World} {K : PySem.W.Frag} {mg : Str → Option Value} {base : Heap} {CX : CXT}
variable {j k : Nat} {f : Addr} {fd : FuncData} {ps : List Str} {sp sp' : Sp}

theorem FnG.up (F : FnG P w K mg base CX j f fd ps sp) (h : j ≤ k) : FnG P w K mg base CX k f fd ps sp :=
  ⟨F.same, fun A outer s H args us vs Q E hc hr => F.goes A outer s H args us vs Q E hc (hr.mono h)⟩

/-- a promise that holds anywhere holds there -/
theorem FnG.any (F : FnOk P w K mg base CX k f fd ps sp) : FnG P w K mg base CX k f fd ps sp :=
  ⟨F.len, fun A outer s H args us vs Q E _ hr => F.run A outer s H args us vs Q E hr⟩

/-- a def by its body -/
theorem FnG.body {name qual : Str} {params : Arguments} {body : List Stmt} {scope : Scope}
    {dV kV doc pm cdv ct oc : Value} {an od : Option Addr} {osl : Array (Option Value)} {N : List Str}
    (lk : K.lookup f = some ⟨oc, od, .func (PySem.W.fnOf name qual params body scope dV kV doc pm an cdv ct), osl⟩)
    (hcd : PySem.W.codeIn K cdv qual = true) (S : FnScope N ps scope)
    (len : ∀ vs H Q E, sp vs H Q E → vs.length = ps.length)
    (hbody : ∀ (A : Around) (outer : List Env) (s : Shared) (H : Hp) (vs : List V) (Q : VK) (E : XK), Calm A →
      Room k (A.deeper (envOfC qual scope s.heap.objs.size f cdv)) → sp vs H Q E →
      ∃ t, PSs (cxOf CX P w K mg base N qual scope f cdv A outer s H E) body t ∧
        t { nx := fun _ H' => Q .non H', rt := Q } (start N vs) H) :
    FnG P w K mg base CX (k + 1) f (PySem.W.fnOf name qual params body scope dV kV doc pm an cdv ct) ps sp := by
  refine ⟨len, ?_⟩
  intro A outer s H args us vs Q E hcm hr e0 hb r hsp
  have in0 : K.In s.heap := e0.mod.kin.keeps (fun b o e => (e0.bs b o e).1)
  have lim : s.heap.NoLimit := e0.mod.nolimit.keeps (fun b o e => (e0.bs b o e).1)
  have kinds : ∀ y ∈ ps.zip us, scope.names.lookup y.1 = some .local ∨
      (scope.names.lookup y.1 = some .cell ∧ ((cellsFrom (s.heap.objs.size + 1) scope.names []).lookup y.1).isSome = true) := by
    rintro ⟨n, v⟩ hy
    cases S.par n (List.of_mem_zip hy).1 with
    | inl q => exact .inl q
    | inr q => exact .inr ⟨q, PySem.W.cellsFrom_some _ _ _ (.inl q)⟩
  refine codeAny_call_function hr.depth (in0 _ _ lk) rfl S.co S.gen rfl
    (PySem.W.codeRec_of in0 hcd) (hb _ _ _ _ ?_)
  refine wpAny_newFunctionEnv_cells S.kind kinds ?_
  intro env he s1 x
  subst he
  refine ⟨lim.keeps x.toInCall.keep, codeAny_func ?_⟩
  obtain ⟨t, ht, hq⟩ := hbody A outer s H vs Q E hcm (hr.deeper _) hsp
  have I : Inv (cxOf CX P w K mg base N qual scope f cdv A outer s H E) [] (start N vs) H s1 :=
    inv_start S hr.hd e0 (len _ _ _ _ hsp) r x
  refine wpAny_mono (ht.run [] s1 (start N vs) H _ I hq) ?_ (fun e s' hs => hs)
  intro fl s' hs
  cases fl with
  | ret u =>
    obtain ⟨v, σ', H', J, rv, q⟩ := hs
    exact ⟨v, H', J.os, J.bare, J.base, J.hok, rv, q⟩
  | next =>
    obtain ⟨σ', H', J, q⟩ := hs
    exact ⟨V.non, H', J.os, J.bare, J.base, J.hok, rfl, q⟩
  | brk => obtain ⟨_, _, _, q⟩ := hs; exact q.elim
  | cont => obtain ⟨_, _, _, q⟩ := hs; exact q.elim

/-- a def of the text that lets no error out, by its body -/
theorem okG {x qual : Str} {st : Stmt} {N : List Str} (F : Fun K x qual st f fd) (S : FnScope N ps (defScope st))
    (len : ∀ vs H Q E, sp vs H Q E → vs.length = ps.length)
    (hbody : ∀ (cdv : Value) (A : Around) (outer : List Env) (s : Shared) (H : Hp) (vs : List V) (Q : VK) (E : XK), Calm A →
      Room k (A.deeper (envOfC qual (defScope st) s.heap.objs.size f cdv)) → sp vs H Q E →
      ∃ t, PSs (cxOf CX0 P w K mg base N qual (defScope st) f cdv A outer s H E).nox (defBody st) t ∧
        t { nx := fun _ H' => Q .non H', rt := Q } (start N vs) H) :
    FnG P w K mg base CX0 (k + 1) f fd ps sp := by
  obtain ⟨oc, od, kV, doc, pm, an, cdv, ct, osl, rfl, lk, hcd⟩ := F.ex
  refine FnG.body lk hcd S len (fun A outer s H vs Q E hcm hr hsp => ?_)
  obtain ⟨t, h, q⟩ := hbody cdv A outer s H vs Q E hcm hr hsp
  exact ⟨t, h.nox, q⟩
end

section
variable {X : Cx} {CX : CXT} {k : Nat} {f : Addr} {fd : FuncData} {ps : List Str} {sp : Sp}
variable {dvs : List V} {ds : List Value} {E : XK} {x : Str} {p pos : Pos} {e : Expr} {es : List Expr} {t : TA}

theorem runG {pins : List (Addr × Obj)} {σ : St} {H : Hp} {s : Shared} {Q : VK} {us : List Value} {vs : List V}
    (F : FnG X.prog X.w X.K X.mg X.base CX k f fd ps sp) (hcm : Calm X.A) (hr : Room k X.A)
    (hb : Binds X.K fd ps ds) (hd : Vals dvs ds) (hx : Passes CX X E) (I : Inv X pins σ H s)
    (r : Vals vs us) (h : sp (vs ++ dvs) H Q E) :
    wpAny (model X.prog X.w) X.A (call (.ref f) us) (EP X pins σ Q) X.xe s := by
  have r2 := r.append hd
  have hl : (us ++ ds).length = ps.length := r2.length.symm.trans (F.same _ _ _ _ h)
  have go := F.goes X.A X.stack s H ⟨us, []⟩ (us ++ ds) (vs ++ dvs) Q E hcm hr I.env0 (hb s us I.kIn hl) r2 h
  refine wpAny_call (codeAny_mono go ?_)
  intro r s' hq
  match r, hq with
  | .error e, hq => exact hx pins σ H s e s' I hq
  | .ok (.ret u), hq => exact I.after hq
  | .ok .next, hq => exact False.elim hq
  | .ok .brk, hq => exact False.elim hq
  | .ok .cont, hq => exact False.elim hq

/-- f(e, ..) -/
theorem pe_callG (F : FnG X.prog X.w X.K X.mg X.base CX k f fd ps sp) (hcm : Calm X.A) (hr : Room k X.A)
    (hg : Gl X x) (hm : X.mg x = some (.ref f)) (hk : PySem.W.keepIn X.K (.ref f) = true)
    (hb : Binds X.K fd ps ds) (hd : Vals dvs ds) (hx : Passes CX X E) (ha : PA X (e :: es) t)
    (hdb : (x == ("__debug__" : Str)) = false := by decide)
    (he : starEach (e :: es) X.env = (false, eval e X.env) :: starEach es X.env := by rfl)
    (hpl : (backTo pos (starEach es X.env)).any (·.1) = false := by rfl) :
    PE X (.Call (.Name x p) (e :: es) [] pos) (tCall sp dvs E t) := by
  constructor
  intro pins s σ H Q I h
  have go := ha.run pos pins s σ H _ I h
  refine wpAny_Call_Name_kw (ld_glob I hg hm ?_ hdb)
  refine PySem.W.callWith_K (h₀ := X.base) I.ok.mod.kin hk (thn go ?_) he hpl
  rintro us s1 ⟨vs, H1, I1, r, q⟩
  exact ⟨I1.kIn, runG F hcm hr hb hd hx I1 r q⟩

end

/-! ### a def together with where it stands -/
/-- the def that the module's name x holds, its promise at level k; no defaults -/
structure Def (P : Program) (w : World) (K : PySem.W.Frag) (mg : Str → Option Value) (base : Heap) (k : Nat) (x : Str) (ps : List Str) (sp : Sp) : Prop where
  ex : ∃ (f : Addr) (fd : FuncData), FnG P w K mg base CX0 k f fd ps sp ∧ mg x = some (.ref f) ∧
    PySem.W.keepIn K (.ref f) = true ∧ Binds K fd ps []
/-- f(e, ..), f a def of the text -/
theorem pe_d {X : Cx} {j k : Nat} {x : Str} {ps : List Str} {sp : Sp} {p pos : Pos} {e : Expr} {es : List Expr} {t : TA}
    (D : Def X.prog X.w X.K X.mg X.base k x ps sp) (hcm : Calm X.A) (hr : Room j X.A) (hj : k ≤ j) (hg : Gl X x) (ha : PA X (e :: es) t)
    (hdb : (x == ("__debug__" : Str)) = false := by decide)
    (he : starEach (e :: es) X.env = (false, eval e X.env) :: starEach es X.env := by rfl)
    (hpl : (backTo pos (starEach es X.env)).any (·.1) = false := by rfl) :
    PE X (.Call (.Name x p) (e :: es) [] pos) (tCall sp [] E0 t) := by
  obtain ⟨f, fd, F, hm, hk, hb⟩ := D.ex
  exact pe_callG F hcm (hr.mono hj) hg hm hk hb .nil pass0 ha hdb he hpl

/-! ### repr -/
section
variable {X : Cx}
theorem room_depth {k : Nat} {A : Around} (hr : Room k A) : A.units + 200 < cLine := by
  have := hr.un
  omega
/-- repr(x), x data without dicts -/
theorem call_reprD (hcm : Calm X.A) (hu : X.A.units + 200 < cLine) :
    CallR X (.builtin "repr") (fun xs H Q => ∃ v d, xs = [v] ∧ Dp X.K H v d ∧ d.showable = true ∧ d.hasDict = false ∧
      d.depth ≤ 100 ∧ d.shown.length ≤ sizeLine ∧ (∃ a, v = .ref a) ∧ Q (.str d.shown) H) := by
  intro pins s σ H xs us Q I r h
  obtain ⟨v, d, rfl, hd, hs, hn, hdp, hz, ⟨a, rfl⟩, q⟩ := h
  obtain ⟨u, rfl, rv⟩ := vals1 r
  obtain ⟨as, rd⟩ := Dp.reads I d _ u hd rv
  obtain rfl : u = Value.ref a := rv
  refine repr_of_reads' rd hs (fun hx => ?_) hcm (by omega) (fun _ _ e => e) (fun h' u tk hk => ?_) hz
  · rw [hn] at hx; cases hx
  · exact ⟨.str d.shown, H, I.kept hk, ⟨_, rfl⟩, q⟩
end

end VG

set_option maxHeartbeats 4000000
namespace VG
open PySem PySem.Spec PyProof.Rows L2

/-- the law's own call, nothing under way -/
theorem law_goes {P : Program} {w : World} {K : PySem.W.Frag} {mg mb : Str → Option Value} {k : Nat} {fa a : Addr}
    {fd : FuncData} {x : Str} {sp : Sp} {s₁ : Shared} {vs : List Value} {ns : List Int}
    (KX : K.In s₁.heap) (hns : s₁.heap.Ns mainGlobals mg) (hb : s₁.heap.Ns builtinsNs mb)
    (hbb : ∀ x : Str, x ≠ "__name__" → mb x = bootBuiltins x) (hlim : s₁.heap.NoLimit) (hg : s₁.gens = #[])
    (ha : s₁.heap.get? a = some { cls := .type "list", data := .seq vs.toArray })
    (hi : IntsAre vs ns) (hl : ns.length ≤ sizeLine) (hr : Room k callerA)
    (F : ∀ base : Heap, K.In base → base.Ns mainGlobals mg → FnG P w K mg base CX0 k fa fd [x] sp)
    (hbind : ∀ (s : Shared) (u : Value), BindsTo s fd ⟨[u], []⟩ [(x, u)])
    (hsp : ∀ H : Hp, Only H → SqL K H a (ns.map V.int) → sp [.ref a] H (fun v _ => v = .bl true) fun _ _ _ => False) :
    codeAny (model P w) callerA (.call (.ref fa) ⟨[.ref a], []⟩)
      (fun r s' => r = .ok (.ret (.bool true)) ∧ OldK s₁.heap s'.heap ∧ s'.os = s₁.os ∧ AllBare s'.gens) s₁ := by
  have rv := vals_ints hi
  -- H: nothing is tracked, or the script alone
  have main : ∀ H : Hp, Only H → SqL K H a (ns.map V.int) → HOk P w H s₁.heap → (∀ b, H b ≠ none → b = a) →
      (H a ≠ none → K.lookup a = none) →
      codeAny (model P w) callerA (.call (.ref fa) ⟨[.ref a], []⟩)
        (fun r s' => r = .ok (.ret (.bool true)) ∧ OldK s₁.heap s'.heap ∧ s'.os = s₁.os ∧ AllBare s'.gens) s₁ := by
    intro H hO hS hok hA hK
    have dictFree : ∀ {b : Addr} {o : Obj} {es : Array DictEntry} {ep : Nat},
        s₁.heap.get? b = some o → o.data = .dict es ep → H b = none := by
      intro b o es ep e d
      by_cases q : H b = none
      · exact q
      · have e' := hA b q
        subst e'
        rw [ha] at e
        cases e
        exact nomatch (show Data.seq vs.toArray _ = Data.dict es ep from d)
    have nsH : ∀ {b : Addr} {m : Str → Option Value}, s₁.heap.Ns b m → (hidT s₁.heap H).Ns b m := by
      rintro b m ⟨o, es, ep, e, d, r⟩
      exact ⟨o, es, ep, hidT_get e (dictFree e d), d, r⟩
    have inH : K.In (hidT s₁.heap H) := by
      intro b o e
      refine hidT_get (KX b o e) ?_
      by_cases q : H b = none
      · exact q
      · have e' := hA b q
        subst e'
        rw [hK q] at e
        cases e
    obtain ⟨mc, l1, l2⟩ := hlim
    have hM : Mod K mg (hidT s₁.heap H) := ⟨inH, nsH hns, ⟨mb, nsH hb, hbb⟩, ⟨mc, nsH l1, l2⟩⟩
    have none0 : ∀ b : Addr, b ∉ ([] : List Addr) := fun b hb => by simp at hb
    have e0 : Env0 P w K mg (hidT s₁.heap H) callerA [] s₁ H :=
      ⟨rfl, hM, fun b o e => of_hidT e, Nat.le_of_eq (hidT_size _ _), trivial, fun b hb => absurd hb (none0 b), hok, .of_eq hg⟩
    have go := (F _ inH (nsH hns)).goes callerA [] s₁ H ⟨[.ref a], []⟩ [.ref a] [.ref a] _ _ rfl hr e0
      (hbind s₁ (.ref a)) (.cons rfl .nil) (hsp H hO hS)
    refine codeAny_mono go ?_
    intro r s' h
    match r, h with
    | .error e, h => exact False.elim h
    | .ok .next, h => exact False.elim h
    | .ok .brk, h => exact False.elim h
    | .ok .cont, h => exact False.elim h
    | .ok (.ret u), h =>
      obtain ⟨v, H', os, bare, un, hok', r', q⟩ := h
      have q' : v = .bl true := q
      subst q'
      obtain rfl : u = Value.bool true := r'
      refine ⟨rfl, OldK.of_keep ?_, os, bare⟩
      intro b o e
      cases q : H b with
      | none => exact un.keep b o e q (none0 b) (none0 b)
      | some z =>
        rcases hO b with n | ⟨ob, xs, n⟩
        · rw [q] at n
          cases n
        · have e1 := (hok b _ n).1
          have e2 := (hok' b _ (un.frzs b ob _ n)).1
          rw [e] at e1
          cases e1
          exact e2
  cases hk : K.lookup a with
  | some o =>
    have e := KX a o hk
    rw [ha] at e
    cases e
    refine main (fun _ => none) (fun _ => .inl rfl) ?_ (fun b u z => nomatch (show (none : Option HO) = some u from z)) (fun b z => absurd rfl z) (fun z => absurd rfl z)
    exact .inr ⟨_, vs.toArray, _, hk, rfl, rfl, rfl, by rw [List.size_toArray, hi.length]; exact hl, by simpa using rv⟩
  | none =>
    let so : HO := .frz { cls := .type "list", data := .seq vs.toArray } (.lst (ns.map V.int))
    have at_ : ∀ b, b = a → (if b = a then some so else none) = some so := fun b h => if_pos h
    have off : ∀ b, b ≠ a → (if b = a then some so else none) = none := fun b h => if_neg h
    refine main (fun b => if b = a then some so else none) (fun b => ?_) (.inl (.inr ⟨_, if_pos rfl⟩)) (fun b u z => ?_) (fun b z => ?_) (fun _ => hk)
    · by_cases hb : b = a
      · exact .inr ⟨_, _, at_ b hb⟩
      · exact .inl (off b hb)
    · by_cases hb : b = a
      · have z' := (at_ b hb).symm.trans z
        cases z'
        subst hb
        exact ⟨ha, by rw [List.length_map]; exact hl, vs, _, rv, ha⟩
      · exact nomatch (off b hb).symm.trans z
    · by_cases hb : b = a
      · exact hb
      · exact absurd (off b hb) z

/-- what the head leaves, from the law's promise -/
theorem walkG {l : PySem.W.OpenLaw} {n k : Nat} {q : Program} {loose : List Str} {XP : (Str → Option Value) → Heap → Prop}
    {YP : World → Heap → Prop} {d : DefRec} {K : Params → PySem.W.Frag} {sp : PySem.W.Frag → Sp} {x : Str}
    (hn : l.most = some n) (hn2 : n ≤ sizeLine) (hdf : d.params.defaults = []) (hr : Room k callerA)
    (hY : ∀ (w : World) (h : Heap), YP w h → (K w.params).In h)
    (F : ∀ (w : World) (mg : Str → Option Value) (fa : Addr) (h : Heap), (K w.params).In h → h.Ns mainGlobals mg → mg d.name = some (.ref fa) →
      ∃ fd : FuncData, (∀ (s : Shared) (u : Value), BindsTo s fd ⟨[u], []⟩ [(x, u)]) ∧
        ∀ base : Heap, (K w.params).In base → base.Ns mainGlobals mg → FnG l.prog w (K w.params) mg base CX0 k fa fd [x] (sp (K w.params)))
    (hsp : ∀ (K : PySem.W.Frag) (H : Hp) (a : Addr) (ns : List Int), ns.length ≤ n → Only H → SqL K H a (ns.map V.int) →
      sp K [.ref a] H (fun v _ => v = .bl true) fun _ _ _ => False) :
    PySem.W.WalkO q loose XP YP l.row.toRowW d [] (fun f vs => PySem.call f vs) := by
  refine Att.attach_call hn hdf ?_
  intro w s₀ s₁ mg mb fa o pm cd doc a vs ns G Y ho hd hcd hmg hobj hints hlen hg
  have KX := hY w _ Y
  obtain ⟨fd, hb, hF⟩ := F w mg fa _ KX G.T.g hmg
  exact law_goes KX G.T.g G.T.b G.T.builtins G.T.nolimit hg hobj hints (Nat.le_trans hlen hn2) hr hF hb
    (fun H hO hS => hsp (K w.params) H a ns hlen hO hS)
end VG

set_option maxHeartbeats 4000000
namespace VG
open PySem PySem.Spec PyProof.Rows L2

/-! ### data stays -/
section
variable {K : PySem.W.Frag} {H H' : Hp}
theorem sqT_same (e : Same H H') {a : Addr} {xs : List V} (h : SqT K H a xs) : SqT K H' a xs := by
  rcases h with (h | ⟨o, h⟩) | h
  · exact .inl (.inl (e _ _ h))
  · exact .inl (.inr ⟨o, e _ _ h⟩)
  · exact .inr h
mutual
theorem dp_same (e : Same H H') : ∀ {v : V} {d : PyData}, Dp K H v d → Dp K H' v d
  | _, _, .non => .non
  | _, _, .bl b => .bl b
  | _, _, .int i => .int i
  | _, _, .str x => .str x
  | _, _, .lst h t => .lst (e.seq h) (dpAll_same e t)
  | _, _, .tup h t => .tup (sqT_same e h) (dpAll_same e t)
theorem dpAll_same (e : Same H H') : ∀ {vs : List V} {ds : List PyData}, DpAll K H vs ds → DpAll K H' vs ds
  | _, _, .nil => .nil
  | _, _, .cons h t => .cons (dp_same e h) (dpAll_same e t)
end
theorem same_upd {p : Addr} {o : HO} (h : H p = none) : Same H (upd H p o) := fun b u e => by
  rw [upd_ne (ne_of_none e h)]
  exact e
theorem Same.new {p : Addr} {o : HO} (s : Same H H') (h : H' p = none) : Same H (upd H' p o) := s.trans (same_upd h)
theorem dpAll_len : ∀ {vs : List V} {ds : List PyData}, DpAll K H vs ds → vs.length = ds.length
  | _, _, .nil => rfl
  | _, _, .cons _ t => by rw [List.length_cons, List.length_cons, dpAll_len t]
theorem dpAll_get : ∀ {vs : List V} {ds : List PyData} {i : Nat} {v : V}, DpAll K H vs ds → vs[i]? = some v → ∃ d, ds[i]? = some d ∧ Dp K H v d
  | _, _, _, _, .nil, e => by simp at e
  | _, _, 0, _, .cons h _, e => by
    simp at e
    subst e
    exact ⟨_, rfl, h⟩
  | _, _, i + 1, v, .cons _ t, e => by
    obtain ⟨d, e1, h⟩ := dpAll_get (i := i) (v := v) t (by simpa using e)
    exact ⟨d, by simpa using e1, h⟩
theorem dpAll_app : ∀ {vs us : List V} {ds es : List PyData}, DpAll K H vs ds → DpAll K H us es → DpAll K H (vs ++ us) (ds ++ es)
  | _, _, _, _, .nil, h => h
  | _, _, _, _, .cons h t, g => .cons h (dpAll_app t g)
theorem dpAll_ints : ∀ ns : List Int, DpAll K H (ns.map V.int) (ns.map PyData.int)
  | [] => .nil
  | n :: ns => .cons (.int n) (dpAll_ints ns)
theorem dpAll_strs : ∀ ns : List Str, DpAll K H (ns.map V.str) (ns.map PyData.str)
  | [] => .nil
  | n :: ns => .cons (.str n) (dpAll_strs ns)
theorem vals_of_ints : ∀ {vs : List V} {ns : List Int}, DpAll K H vs (ns.map PyData.int) → vs = ns.map V.int
  | _, [], .nil => rfl
  | _, n :: ns, .cons h t => by
    cases h
    rw [vals_of_ints t, List.map_cons]
theorem vals_of_strs : ∀ {vs : List V} {ns : List Str}, DpAll K H vs (ns.map PyData.str) → vs = ns.map V.str
  | _, [], .nil => rfl
  | _, n :: ns, .cons h t => by
    cases h
    rw [vals_of_strs t, List.map_cons]
theorem dp_tup {v : V} {ds : List PyData} (h : Dp K H v (.tuple ds)) : ∃ a xs, v = .ref a ∧ SqT K H a xs ∧ DpAll K H xs ds := by
  cases h with
  | tup h t => exact ⟨_, _, rfl, h, t⟩
theorem dp_lst {v : V} {ds : List PyData} (h : Dp K H v (.list ds)) : ∃ a xs, v = .ref a ∧ SqL K H a xs ∧ DpAll K H xs ds := by
  cases h with
  | lst h t => exact ⟨_, _, rfl, h, t⟩
/-! ### isinstance -/
theorem tyX_tup {a : Addr} {xs : List V} (h : SqT K H a xs) : TyX K H (.ref a) (.type "tuple") := by
  rcases h with (h | ⟨o, h⟩) | ⟨o, its, n, h, c, _⟩
  · exact .base (.tup h)
  · exact .fTuple h
  · exact .kTuple h c
end

/-- the built-in names that the module does not take -/
structure Bltn (mg : Str → Option Value) : Prop where
  abs : mg "abs" = none
  all : mg "all" = none
  dict : mg "dict" = none
  int : mg "int" = none
  bool : mg "bool" = none
  str : mg "str" = none
  isinstance : mg "isinstance" = none
  len : mg "len" = none
  list : mg "list" = none
  max : mg "max" = none
  min : mg "min" = none
  range : mg "range" = none
  repr : mg "repr" = none
  set : mg "set" = none
  sorted : mg "sorted" = none
  sum : mg "sum" = none
  tuple : mg "tuple" = none

theorem bt_isinstance : bootBuiltins "isinstance" = some (.builtin "isinstance") := by decide +kernel
theorem bt_all : bootBuiltins "all" = some (.builtin "all") := by decide +kernel
theorem bt_repr : bootBuiltins "repr" = some (.builtin "repr") := by decide +kernel
theorem bt_abs : bootBuiltins "abs" = some (.builtin "abs") := by decide +kernel
theorem bt_max : bootBuiltins "max" = some (.builtin "max") := by decide +kernel
theorem bt_min : bootBuiltins "min" = some (.builtin "min") := by decide +kernel
theorem bt_sum : bootBuiltins "sum" = some (.builtin "sum") := by decide +kernel
theorem bt_sorted : bootBuiltins "sorted" = some (.builtin "sorted") := by decide +kernel
theorem bt_len : bootBuiltins "len" = some (.builtin "len") := by decide +kernel
theorem bt_int : bootBuiltins "int" = some (.type "int") := by decide +kernel
theorem bt_bool : bootBuiltins "bool" = some (.type "bool") := by decide +kernel
theorem bt_str : bootBuiltins "str" = some (.type "str") := by decide +kernel
theorem bt_tuple : bootBuiltins "tuple" = some (.type "tuple") := by decide +kernel
theorem bt_list : bootBuiltins "list" = some (.type "list") := by decide +kernel
theorem bt_dict : bootBuiltins "dict" = some (.type "dict") := by decide +kernel
theorem bt_set : bootBuiltins "set" = some (.type "set") := by decide +kernel

section
variable {X : Cx}
/-- isinstance(x, T) of a built-in type T -/
def rIsB (K : PySem.W.Frag) : List V → Hp → VK → Prop := fun xs H Q => ∃ (x : V) (n t : String) (b : Bool),
  xs = [x, .ty n] ∧ TyX K H x (.type t) ∧ kitB t n = some b ∧ Q (.bl b) H
theorem call_isB : CallR X (.builtin "isinstance") (rIsB X.K) := by
  intro pins s σ H xs us Q I r h
  obtain ⟨x, n, t, b, rfl, h1, h2, q⟩ := h
  exact call_isi pins s σ H _ us Q I r ⟨x, .ty n, .type t, .type n, b, rfl, .ty n, h1, kit_ty h2, q⟩
end
end VG

set_option maxHeartbeats 4000000
namespace VG
open PySem PySem.Spec PyProof.Rows L2 Evl

/-- H2 without what H1 knows beyond H -/
def hid (H H1 H2 : Hp) : Hp := fun b => if H b = none ∧ H1 b ≠ none then none else H2 b
section
variable {H H' H1 H2 H3 H4 : Hp} {b : Addr} {o : HO}
theorem ex_same (e : Ex H H') : Same H H' := e
theorem hid_see (h : H b = none → H1 b = none) : hid H H1 H2 b = H2 b := if_neg fun q => q.2 (h q.1)
theorem hid_no (h : H b = none) (h1 : H1 b ≠ none) : hid H H1 H2 b = none := if_pos ⟨h, h1⟩
theorem hid_some (h : hid H H1 H2 b = some o) : H2 b = some o ∧ (H b = none → H1 b = none) := by
  unfold hid at h
  split at h
  · cases h
  · rename_i n
    refine ⟨h, fun q => ?_⟩
    by_cases z : H1 b = none
    · exact z
    · exact (n ⟨q, z⟩).elim
theorem hid_ex : Ex (hid H H1 H2) H2 := fun b o h => (hid_some h).1
theorem ex_none (e : Ex H H') (h : H' b = none) : H b = none := fresh_back e h
theorem hid_base (e : Ex H H1) (e2 : Ex H1 H2) : Ex H (hid H H1 H2) := fun b o h => by
  rw [hid_see (fun q => by rw [q] at h; cases h)]
  exact e2 _ _ (e _ _ h)
/-- later on -/
theorem hid_on (e : Ex H2 H3) : Ex (hid H H1 H2) (hid H H1 H3) := fun b o h => by
  obtain ⟨h1, h2⟩ := hid_some h
  rw [hid_see h2]
  exact e _ _ h1
/-- more is known beforehand -/
theorem hid_more (e : Ex H H') : Ex (hid H H1 H2) (hid H' H1 H2) := fun b o h => by
  obtain ⟨h1, h2⟩ := hid_some h
  rw [hid_see (fun q => h2 (ex_none e q))]
  exact h1
/-- entered later -/
theorem hid_late (e : Ex H1 H2) : Ex (hid H H2 H3) (hid H H1 H3) := fun b o h => by
  obtain ⟨h1, h2⟩ := hid_some h
  rw [hid_see (fun q => ex_none e (h2 q))]
  exact h1
/-- in two steps -/
theorem hid_two (e : Ex H1 H2) : Ex (hid (hid H H1 H2) H2 H3) (hid H H1 H3) := fun b o h => by
  obtain ⟨h1, h2⟩ := hid_some h
  refine (hid_see (fun q => ?_)).trans h1
  by_cases z : H1 b = none
  · exact z
  · exact absurd (h2 (hid_no q z)) (fun y => z (ex_none e y))
theorem hid_new (h : H1 b = none) : hid H H1 H2 b = H2 b := hid_see fun _ => h
theorem hid_self : hid H H H2 = H2 := by
  funext b
  exact hid_see fun q => q
end

/-! ### what evaluates to which data -/
section
variable (K : PySem.W.Frag)
def EvD (te : TE) (σ : L2.St) (H : Hp) (d : PyData) : Prop :=
  ∀ H1, Ex H H1 → ∀ Q : VK, (∀ v H2, Ex H1 H2 → Dp K (hid H H1 H2) v d → Q v H2) → te σ H1 Q
def EvDA (ta : TA) (σ : L2.St) (H : Hp) (ds : List PyData) : Prop :=
  ∀ H1, Ex H H1 → ∀ Q : List V → Hp → Prop, (∀ vs H2, Ex H1 H2 → DpAll K (hid H H1 H2) vs ds → Q vs H2) → ta σ H1 Q
def RVD (r : R2) (x y : V) (H : Hp) (d : PyData) : Prop :=
  ∀ H1, Ex H H1 → ∀ Q : VK, (∀ v H2, Ex H1 H2 → Dp K (hid H H1 H2) v d → Q v H2) → r x y H1 Q
def RCD (r : List V → Hp → VK → Prop) (xs : List V) (H : Hp) (d : PyData) : Prop :=
  ∀ H1, Ex H H1 → ∀ Q : VK, (∀ v H2, Ex H1 H2 → Dp K (hid H H1 H2) v d → Q v H2) → r xs H1 Q
/-- a block that hands back d -/
def Runs (t : TS) (σ : L2.St) (H : Hp) (d : PyData) : Prop :=
  ∀ H1, Ex H H1 → ∀ D : Ends, (∀ v H2, Ex H1 H2 → Dp K (hid H H1 H2) v d → D.rt v H2) → t D σ H1
/-- a def that makes data of data -/
def SpD (sp : Sp) (ds : List PyData) (d : PyData) : Prop :=
  ∀ Hv vs H1, Ex Hv H1 → DpAll K Hv vs ds → ∀ (Q : VK) (E : XK), (∀ v H2, Ex H1 H2 → Dp K (hid Hv H1 H2) v d → Q v H2) → sp vs H1 Q E
/-- the promise of such a def: ok tells what it makes of what -/
def spOf (n : Nat) (ok : List PyData → PyData → Prop) : Sp := fun vs H Q _ =>
  ∃ Hv ds d, vs.length = n ∧ Ex Hv H ∧ DpAll K Hv vs ds ∧ ok ds d ∧ ∀ v H2, Ex H H2 → Dp K (hid Hv H H2) v d → Q v H2
end

section
variable {K : PySem.W.Frag} {σ : L2.St} {H H' : Hp} {ta tb te tc : TE} {t : TA} {v : V} {d d1 d2 d3 : PyData} {r r' : R2} {i j : Int} {b : Bool}
theorem spD_of {n : Nat} {ok : List PyData → PyData → Prop} {ds : List PyData} (h : ok ds d) (hn : ds.length = n := by rfl) : SpD K (spOf K n ok) ds d :=
  fun Hv vs H1 e hv Q E q => ⟨Hv, ds, d, (dpAll_len hv).trans hn, e, hv, h, q⟩
theorem EvD.mono (e : Ex H H') (h : EvD K te σ H d) : EvD K te σ H' d := fun H1 a Q q =>
  h H1 (e.trans a) Q fun v H2 e2 hd => q v H2 e2 (dp_same (hid_more e) hd)
theorem Runs.mono {t : TS} (e : Ex H H') (h : Runs K t σ H d) : Runs K t σ H' d := fun H1 a D q =>
  h H1 (e.trans a) D fun v H2 e2 hd => q v H2 e2 (dp_same (hid_more e) hd)

theorem ed_var {i : Nat} (h : σ[i]? = some (some v)) (hd : Dp K H v d) : EvD K (tVar i) σ H d := fun H1 e Q q =>
  ⟨v, h, q v H1 (Ex.refl _) (dp_same (hid_base e (Ex.refl _)) hd)⟩
theorem ed_c (hd : ∀ H, Dp K H v d) : EvD K (tC v) σ H d := fun H1 e Q q => q v H1 (Ex.refl _) (hd _)
theorem ed_int : EvD K (tC (.int i)) σ H (.int i) := ed_c fun _ => .int i
theorem ed_str {x : Str} : EvD K (tC (.str x)) σ H (.str x) := ed_c fun _ => .str x
theorem ed_bl : EvD K (tC (.bl b)) σ H (.bool b) := ed_c fun _ => .bl b
theorem ed_non : EvD K (tC .non) σ H .none := ed_c fun _ => .non
theorem ed_op (ha : EvD K ta σ H d1) (hb : EvD K tb σ H d2) (hr : ∀ x y H', Ex H H' → Dp K H' x d1 → Dp K H' y d2 → RVD K r x y H' d) : EvD K (tOp r ta tb) σ H d :=
  fun H1 e Q q => ha H1 e _ fun x H2 e2 hx => hb H2 (e.trans e2) _ fun y H3 e3 hy =>
    hr x y (hid H H1 H3) (hid_base e (e2.trans e3)) (dp_same (hid_on e3) hx) (dp_same (hid_late e2) hy) H3 hid_ex Q fun v H4 e4 hv =>
      q v H4 ((e2.trans e3).trans e4) (dp_same (hid_two (e2.trans e3)) hv)
theorem eda_nil : EvDA K tNil σ H [] := fun H1 _ _ q => q [] H1 (Ex.refl _) .nil
theorem eda_cons {ds : List PyData} (ha : EvD K ta σ H d) (ht : EvDA K t σ H ds) : EvDA K (tCons ta t) σ H (d :: ds) := fun H1 e Q q =>
  ha H1 e _ fun x H2 e2 hx => ht H2 (e.trans e2) _ fun xs H3 e3 hxs =>
    q (x :: xs) H3 (e2.trans e3) (.cons (dp_same (hid_on e3) hx) (dpAll_same (hid_late e2) hxs))
theorem ed_tup {ds : List PyData} (h : EvDA K t σ H ds) (hl : ds.length ≤ 100000) : EvD K (tTup t) σ H (.tuple ds) := fun H1 e Q q =>
  h H1 e _ fun xs H2 e2 hxs => ⟨sz_of (by rw [dpAll_len hxs]; exact hl), fun p hp =>
    q _ _ (e2.trans (Ex.new hp)) (.tup (.inl (.inl ((hid_new (ex_none e2 hp)).trans upd_same))) (dpAll_same (hid_on (Ex.new hp)) hxs))⟩
theorem ed_lst {ds : List PyData} (h : EvDA K t σ H ds) (hl : ds.length ≤ 100000) : EvD K (tLst t) σ H (.list ds) := fun H1 e Q q =>
  h H1 e _ fun xs H2 e2 hxs => ⟨sz_of (by rw [dpAll_len hxs]; exact hl), fun p hp =>
    q _ _ (e2.trans (Ex.new hp)) (.lst (.inl (.inl ((hid_new (ex_none e2 hp)).trans upd_same))) (dpAll_same (hid_on (Ex.new hp)) hxs))⟩
theorem ed_call {sp : Sp} {E : XK} {ds : List PyData} (h : EvDA K t σ H ds) (hs : SpD K sp ds d) : EvD K (tCall sp [] E t) σ H d := fun H1 e Q q =>
  h H1 e _ fun xs H2 e2 hxs => by
    rw [List.append_nil]
    exact hs (hid H H1 H2) xs H2 hid_ex hxs Q E fun v H3 e3 hv => q v H3 (e2.trans e3) (dp_same (hid_two e2) hv)
theorem ed_cb {rc : List V → Hp → VK → Prop} {ds : List PyData} (h : EvDA K t σ H ds) (hr : ∀ xs H', Ex H H' → DpAll K H' xs ds → RCD K rc xs H' d) : EvD K (tCB rc t) σ H d := fun H1 e Q q =>
  h H1 e _ fun xs H2 e2 hxs => hr xs _ (hid_base e e2) hxs H2 hid_ex Q fun v H3 e3 hv => q v H3 (e2.trans e3) (dp_same (hid_two e2) hv)
theorem ed_ev (hd : ∀ H, Dp K H v d) (h : Ev te σ H v) : EvD K te σ H d := fun H1 e Q q => h H1 e Q fun H2 e2 => q v H2 e2 (hd _)
theorem ev_ed (hd : ∀ H u, Dp K H u d → u = v) (h : EvD K te σ H d) : Ev te σ H v := fun H1 e Q q => h H1 e Q fun u H2 e2 hu => by
  rw [hd _ _ hu]
  exact q H2 e2
theorem ev_int (h : EvD K te σ H (.int i)) : Ev te σ H (.int i) := ev_ed (fun _ _ q => by cases q; rfl) h
theorem ev_bool (h : EvD K te σ H (.bool b)) : Ev te σ H (.bl b) := ev_ed (fun _ _ q => by cases q; rfl) h
theorem ev_str {x : Str} (h : EvD K te σ H (.str x)) : Ev te σ H (.str x) := ev_ed (fun _ _ q => by cases q; rfl) h
theorem ed_of_int (h : Ev te σ H (.int i)) : EvD K te σ H (.int i) := ed_ev (fun _ => .int i) h
theorem ed_of_bool (h : Ev te σ H (.bl b)) : EvD K te σ H (.bool b) := ed_ev (fun _ => .bl b) h
theorem et_bool {tt : TE} (h : EvD K tt σ H (.bool b)) : EvT (tTest tt) σ H b := et_test (ev_bool h)
theorem etB_bool {tt : TE} (h : EvD K tt σ H (.bool b)) : EvT (tB tt) σ H b := et_B (ev_bool h)
theorem ed_and {c : Bool} (h1 : EvD K ta σ H (.bool b)) (h2 : b = true → EvD K tb σ H (.bool c)) : EvD K (tAndV ta tb) σ H (.bool (b && c)) :=
  ed_of_bool (ev_andV (ev_bool h1) fun e => ev_bool (h2 e))
theorem ed_not (h1 : EvD K ta σ H (.bool b)) : EvD K (tNotV ta) σ H (.bool (!b)) := ed_of_bool (ev_notV (ev_bool h1))
/-- int operators -/
theorem ed_I0 {g : Int → Int → Int} (ha : EvD K ta σ H (.int i)) (hb : EvD K tb σ H (.int j)) : EvD K (tOp (rI0 fun i j => .int (g i j)) ta tb) σ H (.int (g i j)) :=
  ed_of_int (ev_op (ev_int ha) (ev_int hb) rv_I0)
theorem ed_I {C : Int → Int → Prop} {g : Int → Int → Int} (ha : EvD K ta σ H (.int i)) (hb : EvD K tb σ H (.int j)) (hc : C i j) : EvD K (tOp (rI C fun i j => .int (g i j)) ta tb) σ H (.int (g i j)) :=
  ed_of_int (ev_op (ev_int ha) (ev_int hb) (rv_I hc))
theorem ed_B0 {g : Int → Int → Bool} (ha : EvD K ta σ H (.int i)) (hb : EvD K tb σ H (.int j)) : EvD K (tOp (rI0 fun i j => .bl (g i j)) ta tb) σ H (.bool (g i j)) :=
  ed_of_bool (ev_op (ev_int ha) (ev_int hb) rv_I0)
theorem ed_neg (ha : EvD K ta σ H (.int i)) : EvD K (tUn (rU fun i => .int (-i)) ta) σ H (.int (-i)) := ed_of_int (ev_un (ev_int ha) ru_neg)
/-- an item -/
theorem ed_ixT {ds : List PyData} {k : Nat} (ha : EvD K ta σ H (.tuple ds)) (hb : EvD K tb σ H (.int (k : Int))) (h : ds[k]? = some d) : EvD K (tOp (rIxT K) ta tb) σ H d :=
  ed_op ha hb fun x y H' e hx hy => by
    obtain ⟨a, xs, rfl, h1, h2⟩ := dp_tup hx
    cases hy
    have hl : k < xs.length := by
      rw [dpAll_len h2]
      exact (List.getElem?_eq_some_iff.mp h).1
    obtain ⟨d', h3, h4⟩ := dpAll_get h2 (List.getElem?_eq_getElem hl)
    rw [h] at h3
    cases h3
    intro H1 e1 Q q
    exact ⟨a, xs, _, xs[k], rfl, rfl, sqT_same e1 h1, atI_nat (List.getElem?_eq_getElem hl), q _ H1 (Ex.refl _) (dp_same (hid_base e1 (Ex.refl _)) h4)⟩
theorem ed_ixL {ds : List PyData} {k : Nat} (ha : EvD K ta σ H (.list ds)) (hb : EvD K tb σ H (.int (k : Int))) (h : ds[k]? = some d) : EvD K (tOp (rIxL K) ta tb) σ H d :=
  ed_op ha hb fun x y H' e hx hy => by
    obtain ⟨a, xs, rfl, h1, h2⟩ := dp_lst hx
    cases hy
    have hl : k < xs.length := by
      rw [dpAll_len h2]
      exact (List.getElem?_eq_some_iff.mp h).1
    obtain ⟨d', h3, h4⟩ := dpAll_get h2 (List.getElem?_eq_getElem hl)
    rw [h] at h3
    cases h3
    intro H1 e1 Q q
    exact ⟨a, xs, _, xs[k], rfl, rfl, ex_l e1 h1, atI_nat (List.getElem?_eq_getElem hl), q _ H1 (Ex.refl _) (dp_same (hid_base e1 (Ex.refl _)) h4)⟩
/-! ### statements -/
theorem ru_ret (h : EvD K te σ H d) : Runs K (tRet te) σ H d := fun H1 e D q => h H1 e _ q
theorem ru_if {c : TT} {t u : TS} (h : EvT c σ H b) (h1 : b = true → Runs K t σ H d) (h2 : b = false → Runs K u σ H d) : Runs K (tIfS c t u) σ H d := fun H1 e D q =>
  h H1 e _ fun H2 e2 => by
    cases b with
    | true =>
      rw [if_pos rfl]
      exact h1 rfl H2 (e.trans e2) D fun v H3 e3 hv => q v H3 (e2.trans e3) (dp_same (hid_late e2) hv)
    | false =>
      rw [if_neg Bool.false_ne_true]
      exact h2 rfl H2 (e.trans e2) D fun v H3 e3 hv => q v H3 (e2.trans e3) (dp_same (hid_late e2) hv)
/-- if c: return ..; then the rest -/
theorem ru_when {c : TT} {t u : TS} (h : EvT c σ H b) (h1 : b = true → Runs K t σ H d) (h2 : b = false → Runs K u σ H d) : Runs K (tSeq (tIfS c t tNext) u) σ H d := fun H1 e D q =>
  h H1 e _ fun H2 e2 => by
    cases b with
    | true =>
      rw [if_pos rfl]
      exact h1 rfl H2 (e.trans e2) _ fun v H3 e3 hv => q v H3 (e2.trans e3) (dp_same (hid_late e2) hv)
    | false =>
      rw [if_neg Bool.false_ne_true]
      exact h2 rfl H2 (e.trans e2) D fun v H3 e3 hv => q v H3 (e2.trans e3) (dp_same (hid_late e2) hv)
theorem ru_set {i : Nat} {u : TS} (h : EvD K te σ H d1) (k : ∀ v H', Ex H H' → Dp K H' v d1 → Runs K u (σ.set i (some v)) H' d) : Runs K (tSeq (tAsg te (gName i)) u) σ H d := fun H1 e D q =>
  h H1 e _ fun v H2 e2 hv => k v (hid H H1 H2) (hid_base e e2) hv H2 hid_ex D fun w H3 e3 hw => q w H3 (e2.trans e3) (dp_same (hid_two e2) hw)
theorem ru_drop {u : TS} (h : EvD K te σ H d1) (k : Runs K u σ H d) : Runs K (tSeq (tDrop te) u) σ H d := fun H1 e D q =>
  h H1 e _ fun v H2 e2 hv => k H2 (e.trans e2) D fun w H3 e3 hw => q w H3 (e2.trans e3) (dp_same (hid_late e2) hw)
end

/-! ### comprehensions -/
theorem yes_go {σ : L2.St} {H : Hp} {A B : Hp → Prop} (h : A H) : tYes σ H (fun b H3 => if b = true then A H3 else B H3) := by
  show if true = true then A H else B H
  rw [if_pos rfl]
  exact h
section
variable {K : PySem.W.Frag} {σ : L2.St} {H : Hp} {te tl : TE} {g : TG} {vs : List Nat} {d : PyData}
/-- one comprehension without tests over any walk -/
theorem lcD {J : It} {n : Nat} {G : Hp → Prop} {Y : Nat → Hp → V → Hp → Prop} (w : Walk J n G Y) (f : Nat → PyData) (hn : n ≤ 100000)
    {H1 : Hp} (e1 : Ex H H1) (hG : ∀ H', Ex H H' → G H')
    (hs : ∀ i x H' H'', i < n → Ex H H' → Y i H' x H'' → ∀ Qg : L2.St → Hp → Prop,
      (∀ σ2 H2, wipe σ2 vs = wipe σ vs → Ex H' H2 → EvD K te σ2 H (f i) → Qg σ2 H2) → g x (wipe σ vs) H'' Qg)
    {D : Addr} (hD : H1 D = none) {Q : VK} (q : ∀ v H2, Ex H1 H2 → Dp K (hid H H1 H2) v (.list ((List.range n).map f)) → Q v H2) :
    ∃ W : Nat → Nat → Hp → Prop, (∃ m, W 0 m (upd H1 D (.lst []))) ∧ ∀ i m H, W i m H → (J.stop i H ∧ Q (.ref D) H) ∨
      (J.go i H ∧ ∃ Nx : Hp → Prop, (∀ H', Nx H' → ∃ m', m' < m ∧ W (i + 1) m' H') ∧ ∀ x H', J.yld i H x H' →
        g x (wipe σ vs) H' fun σ2 H2 => wipe σ2 vs = wipe σ vs ∧ tYes σ2 H2 fun b H3 =>
          if b = true then te σ2 H3 fun y H4 => ∃ acc, H4 D = some (.lst acc) ∧ acc.length < sizeLine ∧ Nx (upd H4 D (.lst (acc ++ [y]))) else Nx H3) := by
  refine lc_it w (D := D) (Qd := Q (.ref D)) (fun i H' => ∃ acc, Ex H1 H' ∧ H' D = some (.lst acc) ∧ DpAll K (fun b => if b = D then none else hid H H1 H' b) acc ((List.range i).map f))
    ⟨[], Ex.new hD, upd_same, .nil⟩ (fun i H' _ ⟨_, e, _⟩ => hG H' (e1.trans e)) ?_ ?_
  · rintro i x H' H'' hi ⟨acc, e, h1, h2⟩ y
    refine hs i x H' H'' hi (e1.trans e) y _ ?_
    intro σ2 H2 hw e2 hev
    refine ⟨hw, ?_⟩
    refine yes_go ?_
    refine hev H2 ((e1.trans e).trans e2) _ fun v H3 e3 hv => ?_
    have hl : acc.length = i := by
      rw [dpAll_len h2, List.length_map, List.length_range]
    have eD : H3 D = some (.lst acc) := e3 _ _ (e2 _ _ h1)
    refine ⟨acc, eD, sz_lt (by omega), acc ++ [v], ((e.trans e2).trans e3).mut hD, upd_same, ?_⟩
    rw [List.range_succ, List.map_append]
    have off : ∀ Hx : Hp, Ex Hx H3 → (∀ b, Hx b ≠ none → b ≠ D) → (∀ b, Hx b ≠ none → (H b = none → H1 b = none)) →
        Ex Hx (fun b => if b = D then none else hid H H1 (upd H3 D (.lst (acc ++ [v]))) b) := fun Hx ex nD vis b o hb => by
      have n0 : Hx b ≠ none := by
        rw [hb]
        exact fun z => nomatch z
      have nb := nD b n0
      show (if b = D then none else hid H H1 (upd H3 D (.lst (acc ++ [v]))) b) = some o
      rw [if_neg nb, hid_see (vis b n0), upd_ne nb]
      exact ex _ _ hb
    refine dpAll_app (dpAll_same (off (fun b => if b = D then none else hid H H1 H' b) ?_ ?_ ?_) h2) (.cons (dp_same (off (hid H H2 H3) hid_ex ?_ ?_) hv) .nil)
    · intro b o hb
      have hb : (if b = D then none else hid H H1 H' b) = some o := hb
      by_cases z : b = D
      · rw [if_pos z] at hb
        cases hb
      · rw [if_neg z] at hb
        exact e3 _ _ (e2 _ _ ((hid_some hb).1))
    · intro b hb z
      exact hb (if_pos z)
    · intro b hb
      by_cases z : b = D
      · exact absurd (if_pos z) hb
      · cases hq : hid H H1 H' b with
        | none =>
          refine absurd ?_ hb
          show (if b = D then none else hid H H1 H' b) = none
          rw [if_neg z]
          exact hq
        | some o => exact (hid_some hq).2
    · intro b hb z
      subst z
      refine hb (hid_no ?_ ?_)
      · exact ex_none e1 hD
      · rw [e2 _ _ h1]
        exact fun z => nomatch z
    · intro b hb hn
      cases hq : hid H H2 H3 b with
      | none => exact absurd hq hb
      | some o => exact ex_none (e.trans e2) ((hid_some hq).2 hn)
  · rintro H' ⟨acc, e, h1, h2⟩
    refine q _ H' e (.lst (.inl (.inl ((hid_new hD).trans h1))) (dpAll_same ?_ h2))
    intro b o hb
    have hb : (if b = D then none else hid H H1 H' b) = some o := hb
    by_cases z : b = D
    · rw [if_pos z] at hb
      cases hb
    · rw [if_neg z] at hb
      exact hb

/-- over a list of data, over a tuple -/
theorem ed_lcL {ds : List PyData} (f : Nat → PyData) (hl : EvD K tl σ H (.list ds)) (hz : ds.length ≤ 100000)
    (hs : ∀ i x dx H', ds[i]? = some dx → Ex H H' → Dp K H' x dx → ∀ H'', Ex H' H'' → ∀ Qg : L2.St → Hp → Prop,
      (∀ σ2 H2, wipe σ2 vs = wipe σ vs → Ex H'' H2 → EvD K te σ2 H' (f i) → Qg σ2 H2) → g x (wipe σ vs) H'' Qg) :
    EvD K (tLc (iList K tl) g tYes te vs) σ H (.list ((List.range ds.length).map f)) := fun H1 e Q q =>
  hl H1 e _ fun x H2 e2 hx => by
    obtain ⟨a, xs, rfl, h1, h2⟩ := dp_lst hx
    have hlen := dpAll_len h2
    refine ⟨a, rfl, ⟨xs, ex_l hid_ex h1⟩, fun D hD => ?_⟩
    refine lcD (K := K) (H := hid H H1 H2) (walk_list (K := K) (a := a) (xs := xs)) f (by omega) hid_ex (fun H' e' => ex_l e' h1) ?_ hD fun v H3 e3 hv => ?_
    · rintro i x H' H'' hi e' ⟨rfl, hx⟩ Qg k
      obtain ⟨dx, hd, hdx⟩ := dpAll_get h2 hx
      exact hs i x dx (hid H H1 H2) hd (hid_base e e2) hdx H'' e' Qg k
    · refine q v H3 (e2.trans e3) (dp_same (hid_two e2) ?_)
      rw [hlen] at hv
      exact hv
theorem ed_lcT {ds : List PyData} (f : Nat → PyData) (hl : EvD K tl σ H (.tuple ds)) (hz : ds.length ≤ 100000)
    (hs : ∀ i x dx H', ds[i]? = some dx → Ex H H' → Dp K H' x dx → ∀ H'', Ex H' H'' → ∀ Qg : L2.St → Hp → Prop,
      (∀ σ2 H2, wipe σ2 vs = wipe σ vs → Ex H'' H2 → EvD K te σ2 H' (f i) → Qg σ2 H2) → g x (wipe σ vs) H'' Qg) :
    EvD K (tLc (iTup K tl) g tYes te vs) σ H (.list ((List.range ds.length).map f)) := fun H1 e Q q =>
  hl H1 e _ fun x H2 e2 hx => by
    obtain ⟨a, xs, rfl, h1, h2⟩ := dp_tup hx
    have hlen := dpAll_len h2
    refine ⟨a, rfl, ⟨xs, sqT_same hid_ex h1⟩, fun D hD => ?_⟩
    refine lcD (K := K) (H := hid H H1 H2) (walk_tup (K := K) (a := a) (xs := xs)) f (by omega) hid_ex (fun H' e' => sqT_same e' h1) ?_ hD fun v H3 e3 hv => ?_
    · rintro i x H' H'' hi e' ⟨rfl, hx⟩ Qg k
      obtain ⟨dx, hd, hdx⟩ := dpAll_get h2 hx
      exact hs i x dx (hid H H1 H2) hd (hid_base e e2) hdx H'' e' Qg k
    · refine q v H3 (e2.trans e3) (dp_same (hid_two e2) ?_)
      rw [hlen] at hv
      exact hv
theorem ed_lcR1 {ta : TA} {n : Nat} (f : Nat → PyData) (hl : EvDA K ta σ H [.int (n : Int)]) (hz : n ≤ 100000)
    (hs : ∀ i : Nat, i < n → ∀ H' H'', Ex H H' → Ex H' H'' → ∀ Qg : L2.St → Hp → Prop,
      (∀ σ2 H2, wipe σ2 vs = wipe σ vs → Ex H'' H2 → EvD K te σ2 H' (f i) → Qg σ2 H2) → g (.int (0 + (i : Int))) (wipe σ vs) H'' Qg) :
    EvD K (tLc (iRng1 ta) g tYes te vs) σ H (.list ((List.range n).map f)) := fun H1 e Q q =>
  hl H1 e _ fun xs H2 e2 hx => by
    cases hx with
    | cons h1 h2 =>
      cases h1
      cases h2
      refine ⟨(n : Int), rfl, by omega, by omega, fun D hD => ?_⟩
      rw [Int.toNat_natCast]
      refine lcD (K := K) (H := hid H H1 H2) (walk_range (lo := 0) (n := n)) f hz hid_ex (fun _ _ => trivial) ?_ hD fun v H3 e3 hv => q v H3 (e2.trans e3) (dp_same (hid_two e2) hv)
      rintro i x H' H'' hi e' ⟨rfl, rfl⟩ Qg k
      exact hs i hi (hid H H1 H2) H'' (hid_base e e2) e' Qg k
theorem ed_lcS {z : Str} (f : Nat → PyData) (hl : EvD K tl σ H (.str z)) (hz : z.cps.size ≤ 100000)
    (hs : ∀ (i : Nat) (c : Nat), z.cps[i]? = some c → ∀ H' H'', Ex H H' → Ex H' H'' → ∀ Qg : L2.St → Hp → Prop,
      (∀ σ2 H2, wipe σ2 vs = wipe σ vs → Ex H'' H2 → EvD K te σ2 H' (f i) → Qg σ2 H2) → g (.str ⟨#[c]⟩) (wipe σ vs) H'' Qg) :
    EvD K (tLc (iStr tl) g tYes te vs) σ H (.list ((List.range z.cps.size).map f)) := fun H1 e Q q =>
  hl H1 e _ fun x H2 e2 hx => by
    cases hx
    refine ⟨z, rfl, fun D hD => ?_⟩
    refine lcD (K := K) (H := hid H H1 H2) (walk_str (z := z)) f hz hid_ex (fun _ _ => trivial) ?_ hD fun v H3 e3 hv => q v H3 (e2.trans e3) (dp_same (hid_two e2) hv)
    rintro i x H' H'' hi e' ⟨rfl, c, hc, rfl⟩ Qg k
    exact hs i c hc (hid H H1 H2) H'' (hid_base e e2) e' Qg k
/-- the target a name -/
theorem g_name {i : Nat} {x : V} {H' H'' : Hp} {Qg : L2.St → Hp → Prop} (hw : wipe ((wipe σ vs).set i (some x)) vs = wipe σ vs) (he : EvD K te ((wipe σ vs).set i (some x)) H' d)
    (k : ∀ σ2 H2, wipe σ2 vs = wipe σ vs → Ex H'' H2 → EvD K te σ2 H' d → Qg σ2 H2) : gName i x (wipe σ vs) H'' Qg := k _ _ hw (Ex.refl _) he
end

/-! ### types, lengths, all, strings -/
def rLenK (K : PySem.W.Frag) : List V → Hp → VK → Prop := fun xs H Q => ∃ p ys, xs = [.ref p] ∧ (SqL K H p ys ∨ SqT K H p ys) ∧ Q (.int ys.length) H
def tyD : PyData → String
  | .none => "NoneType" | .bool _ => "bool" | .int _ => "int" | .str _ => "str" | .list _ => "list" | .tuple _ => "tuple" | _ => "?"
theorem kb_ii : kitB "int" "int" = some true := by decide +kernel
theorem kb_ib : kitB "int" "bool" = some false := by decide +kernel
theorem kb_ss : kitB "str" "str" = some true := by decide +kernel
theorem kb_tt : kitB "tuple" "tuple" = some true := by decide +kernel
theorem kb_ll : kitB "list" "list" = some true := by decide +kernel
section
variable {K : PySem.W.Frag} {σ : L2.St} {H : Hp} {te ta tb tl : TE} {t : TA} {d : PyData} {v : V}
theorem tyX_lst {a : Addr} {xs : List V} (h : SqL K H a xs) : TyX K H (.ref a) (.type "list") := by
  rcases h with (h | ⟨o, h⟩) | ⟨o, its, n, h, c, _⟩
  · exact .base (.lst h)
  · exact .base (.frz h)
  · exact .kList h c
theorem tyX_dp (h : Dp K H v d) : TyX K H v (.type (tyD d)) := by
  cases h with
  | non => exact .base .non
  | bl b => exact .base (.bl b)
  | int i => exact .base (.int i)
  | str x => exact .base (.str x)
  | lst h _ => exact tyX_lst h
  | tup h _ => exact tyX_tup h
theorem ed_isB {n : String} {b : Bool} (ha : EvD K ta σ H d) (hk : kitB (tyD d) n = some b) :
    EvD K (tCB (rIsB K) (tCons ta (tCons (tC (.ty n)) tNil))) σ H (.bool b) := fun H1 e Q q =>
  ha H1 e _ fun x H2 e2 hx => ⟨x, n, tyD d, b, rfl, tyX_dp (dp_same hid_ex hx), hk, q _ H2 e2 (.bl b)⟩
theorem Runs.go {t : TS} {Hv : Hp} {Q : VK} {n : L2.St → Hp → Prop} (h : Runs K t σ Hv d) (e : Ex Hv H) (q : ∀ v H2, Ex H H2 → Dp K (hid Hv H H2) v d → Q v H2) :
    t { nx := n, rt := Q } σ H := h H e _ q
theorem ed_len {ds : List PyData} (ha : EvD K ta σ H (.tuple ds)) : EvD K (tCB (rLenK K) (tCons ta tNil)) σ H (.int (ds.length : Int)) := fun H1 e Q q =>
  ha H1 e _ fun x H2 e2 hx => by
    obtain ⟨a, xs, rfl, h1, h2⟩ := dp_tup hx
    refine ⟨a, xs, rfl, .inr (sqT_same hid_ex h1), ?_⟩
    rw [dpAll_len h2]
    exact q _ H2 e2 (.int _)
theorem ed_lenL {ds : List PyData} (ha : EvD K ta σ H (.list ds)) : EvD K (tCB (rLenK K) (tCons ta tNil)) σ H (.int (ds.length : Int)) := fun H1 e Q q =>
  ha H1 e _ fun x H2 e2 hx => by
    obtain ⟨a, xs, rfl, h1, h2⟩ := dp_lst hx
    refine ⟨a, xs, rfl, .inl (ex_l hid_ex h1), ?_⟩
    rw [dpAll_len h2]
    exact q _ H2 e2 (.int _)
theorem ed_lenS {z : Str} (ha : EvD K ta σ H (.str z)) (hz : z.length ≤ sizeLine) : EvD K (tCB (fun xs H Q => ∃ z, xs = [.str z] ∧ z.length ≤ sizeLine ∧ Q (.int z.length) H) (tCons ta tNil)) σ H (.int (z.length : Int)) := fun H1 e Q q =>
  ha H1 e _ fun x H2 e2 hx => by
    cases hx
    exact ⟨z, rfl, hz, q _ H2 e2 (.int _)⟩
theorem vals_of_bools : ∀ {vs : List V} {ns : List Bool}, DpAll K H vs (ns.map PyData.bool) → vs = ns.map V.bl
  | _, [], .nil => rfl
  | _, n :: ns, .cons h t => by
    cases h
    rw [vals_of_bools t, List.map_cons]
theorem ed_all {bs : List Bool} (ha : EvD K ta σ H (.list (bs.map PyData.bool))) : EvD K (tCB (rAll K) (tCons ta tNil)) σ H (.bool (bs.all id)) := fun H1 e Q q =>
  ha H1 e _ fun x H2 e2 hx => by
    obtain ⟨a, xs, rfl, h1, h2⟩ := dp_lst hx
    rw [vals_of_bools h2] at h1
    exact ⟨a, bs, rfl, ex_l hid_ex h1, q _ H2 e2 (.bl _)⟩
theorem ed_sum {ns : List Int} (ha : EvD K ta σ H (.list (ns.map PyData.int))) : EvD K (tCB (rSum K) (tCons ta tNil)) σ H (.int ns.sum) := fun H1 e Q q =>
  ha H1 e _ fun x H2 e2 hx => by
    obtain ⟨a, xs, rfl, h1, h2⟩ := dp_lst hx
    rw [vals_of_ints h2] at h1
    exact ⟨a, ns, rfl, ex_l hid_ex h1, q _ H2 e2 (.int _)⟩
/-- tuple(x) of a list -/
theorem ed_tupleOf {ds : List PyData} (ha : EvD K ta σ H (.list ds)) :
    EvD K (tCB (fun xs H Q => ∃ p ys, xs = [.ref p] ∧ ((SqL K H p ys ∧ ∀ l, H l = none → Q (.ref l) (upd H l (.tup ys))) ∨ (SqT K H p ys ∧ Q (.ref p) H))) (tCons ta tNil)) σ H (.tuple ds) := fun H1 e Q q =>
  ha H1 e _ fun x H2 e2 hx => by
    obtain ⟨a, xs, rfl, h1, h2⟩ := dp_lst hx
    refine ⟨a, xs, rfl, .inl ⟨ex_l hid_ex h1, fun l hl => ?_⟩⟩
    exact q _ _ (e2.trans (Ex.new hl)) (.tup (.inl (.inl ((hid_new (ex_none e2 hl)).trans upd_same))) (dpAll_same (hid_on (Ex.new hl)) h2))
/-- repr(x) -/
theorem ed_repr {d : PyData} (ha : EvD K ta σ H d) (hr : ∀ H v, Dp K H v d → ∃ a, v = .ref a) (hs : d.showable = true) (hn : d.hasDict = false) (hd : d.depth ≤ 100) (hz : d.shown.length ≤ sizeLine) :
    EvD K (tCB (fun xs H Q => ∃ v d, xs = [v] ∧ Dp K H v d ∧ d.showable = true ∧ d.hasDict = false ∧ d.depth ≤ 100 ∧ d.shown.length ≤ sizeLine ∧ (∃ a, v = .ref a) ∧ Q (.str d.shown) H) (tCons ta tNil)) σ H (.str d.shown) := fun H1 e Q q =>
  ha H1 e _ fun x H2 e2 hx => ⟨x, d, rfl, dp_same hid_ex hx, hs, hn, hd, hz, hr _ _ hx, q _ H2 e2 (.str _)⟩
/-- a pair of bounds, ints -/
theorem ed_chainI {g g' : Int → Int → Bool} {i j k : Int} {tc : TE} (ha : EvD K ta σ H (.int i)) (hb : EvD K tb σ H (.int j)) (hc : g i j = true → EvD K tc σ H (.int k)) :
    EvD K (tChain (rI0 fun i j => .bl (g i j)) (rI0 fun i j => .bl (g' i j)) ta tb tc) σ H (.bool (g i j && g' j k)) := fun H1 e Q q =>
  ha H1 e _ fun x H2 e2 hx => hb H2 (e.trans e2) _ fun y H3 e3 hy => by
    cases hx
    cases hy
    refine ⟨i, j, rfl, rfl, g i j, rfl, ?_⟩
    cases hg : g i j with
    | false =>
      rw [if_neg Bool.false_ne_true]
      refine q _ H3 (e2.trans e3) ?_
      rw [hg]
      exact .bl _
    | true =>
      rw [if_pos rfl]
      refine hc hg H3 ((e.trans e2).trans e3) _ fun z H4 e4 hz => ?_
      cases hz
      refine ⟨j, k, rfl, rfl, q _ H4 ((e2.trans e3).trans e4) ?_⟩
      rw [hg]
      exact .bl _
end
section
variable {K : PySem.W.Frag} {σ : L2.St} {H : Hp} {te ta tb tl : TE} {t : TA} {d : PyData} {v : V}
theorem dp1 {vs : List V} (h : DpAll K H vs [d]) : ∃ v, vs = [v] ∧ Dp K H v d := by
  cases h with
  | cons h t =>
    cases t
    exact ⟨_, rfl, h⟩
theorem dp2 {vs : List V} {e : PyData} (h : DpAll K H vs [d, e]) : ∃ v u, vs = [v, u] ∧ Dp K H v d ∧ Dp K H u e := by
  cases h with
  | cons h t =>
    obtain ⟨u, rfl, h2⟩ := dp1 t
    exact ⟨_, _, rfl, h, h2⟩
theorem dp3 {vs : List V} {e f : PyData} (h : DpAll K H vs [d, e, f]) : ∃ v u x, vs = [v, u, x] ∧ Dp K H v d ∧ Dp K H u e ∧ Dp K H x f := by
  cases h with
  | cons h t =>
    obtain ⟨u, x, rfl, h2, h3⟩ := dp2 t
    exact ⟨_, _, _, rfl, h, h2, h3⟩
theorem ed_is {d' : PyData} (e : d = d') (h : EvD K te σ H d) : EvD K te σ H d' := e ▸ h
theorem ed_isb {b b' : Bool} (e : b = b') (h : EvD K te σ H (.bool b)) : EvD K te σ H (.bool b') := e ▸ h
theorem lt_one (a c : Nat) : ([a] < [c]) ↔ a < c := by
  rw [List.cons_lt_cons_iff]
  constructor
  · rintro (h | ⟨_, h⟩)
    · exact h
    · exact absurd h (List.not_lt_nil _)
  · exact .inl
/-- a sign between two signs -/
theorem ed_leS {a z c i : Nat} (h : σ[i]? = some (some (.str ⟨#[c]⟩))) (h1 : a ≤ c) (h2 : c ≤ z) :
    EvD K (tChain (fun x y H Q => ∃ i j : Str, x = .str i ∧ y = .str j ∧ Q (.bl (!decide (j.cps.toList < i.cps.toList))) H)
      (fun x y H Q => ∃ i j : Str, x = .str i ∧ y = .str j ∧ Q (.bl (!decide (j.cps.toList < i.cps.toList))) H) (tC (.str ⟨#[a]⟩)) (tVar i) (tC (.str ⟨#[z]⟩))) σ H (.bool true) := fun H1 e Q q => by
  refine ⟨_, h, ⟨#[a]⟩, ⟨#[c]⟩, rfl, rfl, _, rfl, ?_⟩
  have e1 : decide ([c] < [a]) = false := decide_eq_false fun q => by
    have := (lt_one c a).mp q
    omega
  have e2 : decide ([z] < [c]) = false := decide_eq_false fun q => by
    have := (lt_one z c).mp q
    omega
  show if (!decide ([c] < [a])) = true then _ else _
  rw [e1]
  refine iteT ⟨⟨#[c]⟩, ⟨#[z]⟩, rfl, rfl, ?_⟩
  show Q (.bl (!decide ([z] < [c]))) H1
  rw [e2]
  exact q _ H1 (Ex.refl _) (.bl _)
end
/-! ### more of comprehensions: ranges by an int, targets of several names -/
section
variable {K : PySem.W.Frag} {σ : L2.St} {H : Hp} {te ta tb tl tx ty : TE} {g : TG} {vs : List Nat} {d d1 d2 d3 : PyData}
theorem ed_lcR {ta : TA} {m : Int} (f : Nat → PyData) (hl : EvDA K ta σ H [.int m]) (hz : -100000 ≤ m ∧ m ≤ 100000)
    (hs : ∀ i : Nat, i < m.toNat → ∀ H' H'', Ex H H' → Ex H' H'' → ∀ Qg : L2.St → Hp → Prop,
      (∀ σ2 H2, wipe σ2 vs = wipe σ vs → Ex H'' H2 → EvD K te σ2 H' (f i) → Qg σ2 H2) → g (.int (0 + (i : Int))) (wipe σ vs) H'' Qg) :
    EvD K (tLc (iRng1 ta) g tYes te vs) σ H (.list ((List.range m.toNat).map f)) := fun H1 e Q q =>
  hl H1 e _ fun xs H2 e2 hx => by
    obtain ⟨v, rfl, h1⟩ := dp1 hx
    cases h1
    refine ⟨m, rfl, by omega, by omega, fun D hD => ?_⟩
    refine lcD (K := K) (H := hid H H1 H2) (walk_range (lo := 0) (n := m.toNat)) f (by omega) hid_ex (fun _ _ => trivial) ?_ hD fun v H3 e3 hv => q v H3 (e2.trans e3) (dp_same (hid_two e2) hv)
    rintro i x H' H'' hi e' ⟨rfl, rfl⟩ Qg k
    exact hs i hi (hid H H1 H2) H'' (hid_base e e2) e' Qg k
theorem g_tup3 {i j l : Nat} {x : V} {H' H'' : Hp} {Qg : L2.St → Hp → Prop} (hx : Dp K H' x (.tuple [d1, d2, d3])) (e2 : Ex H' H'')
    (hw : ∀ a b c, wipe ((((wipe σ vs).set i (some a)).set j (some b)).set l (some c)) vs = wipe σ vs)
    (he : ∀ a b c, Dp K H' a d1 → Dp K H' b d2 → Dp K H' c d3 → EvD K te ((((wipe σ vs).set i (some a)).set j (some b)).set l (some c)) H' d)
    (k : ∀ σ2 H2, wipe σ2 vs = wipe σ vs → Ex H'' H2 → EvD K te σ2 H' d → Qg σ2 H2) :
    gTup K 3 (gCons (gName i) (gCons (gName j) (gCons (gName l) gNil))) x (wipe σ vs) H'' Qg := by
  obtain ⟨a, xs, rfl, h1, h2⟩ := dp_tup hx
  obtain ⟨u, v, y, rfl, p1, p2, p3⟩ := dp3 h2
  refine ⟨a, _, rfl, sqT_same e2 h1, rfl, u, _, rfl, ?_⟩
  refine ⟨v, _, rfl, ?_⟩
  refine ⟨y, _, rfl, ?_⟩
  exact ⟨rfl, k _ _ (hw u v y) (Ex.refl _) (he u v y p1 p2 p3)⟩
theorem g_tup2 {i j : Nat} {x : V} {H' H'' : Hp} {Qg : L2.St → Hp → Prop} (hx : Dp K H' x (.tuple [d1, d2])) (e2 : Ex H' H'')
    (hw : ∀ a b, wipe (((wipe σ vs).set i (some a)).set j (some b)) vs = wipe σ vs)
    (he : ∀ a b, Dp K H' a d1 → Dp K H' b d2 → EvD K te (((wipe σ vs).set i (some a)).set j (some b)) H' d)
    (k : ∀ σ2 H2, wipe σ2 vs = wipe σ vs → Ex H'' H2 → EvD K te σ2 H' d → Qg σ2 H2) :
    gTup K 2 (gCons (gName i) (gCons (gName j) gNil)) x (wipe σ vs) H'' Qg := by
  obtain ⟨a, xs, rfl, h1, h2⟩ := dp_tup hx
  obtain ⟨u, v, rfl, p1, p2⟩ := dp2 h2
  refine ⟨a, _, rfl, sqT_same e2 h1, rfl, u, _, rfl, ?_⟩
  refine ⟨v, _, rfl, ?_⟩
  exact ⟨rfl, k _ _ (hw u v) (Ex.refl _) (he u v p1 p2)⟩
theorem ed_eqI {i j : Int} (ha : EvD K ta σ H (.int i)) (hb : EvD K tb σ H (.int j)) : EvD K (tOp rEq ta tb) σ H (.bool (decide (i = j))) := by
  refine ed_of_bool (ev_is (ev_op (ev_int ha) (ev_int hb) (rv_eq rfl)) ?_)
  by_cases h : i = j
  · subst h
    rw [decide_eq_true rfl, decide_eq_true rfl]
  · rw [decide_eq_false h, decide_eq_false fun q => h (V.int.inj q)]
theorem ed_neS {x y : Str} (ha : EvD K ta σ H (.str x)) (hb : EvD K tb σ H (.str y)) : EvD K (tOp rNe ta tb) σ H (.bool (!decide (x = y))) := by
  refine ed_of_bool (ev_is (ev_op (ev_str ha) (ev_str hb) (rv_ne rfl)) ?_)
  by_cases h : x = y
  · subst h
    rw [decide_eq_true rfl, decide_eq_true rfl]
  · rw [decide_eq_false h, decide_eq_false fun q => h (V.str.inj q)]
theorem ed_neI {i j : Int} (ha : EvD K ta σ H (.int i)) (hb : EvD K tb σ H (.int j)) : EvD K (tOp rNe ta tb) σ H (.bool (!decide (i = j))) := by
  refine ed_of_bool (ev_is (ev_op (ev_int ha) (ev_int hb) (rv_ne rfl)) ?_)
  by_cases h : i = j
  · subst h
    rw [decide_eq_true rfl, decide_eq_true rfl]
  · rw [decide_eq_false h, decide_eq_false fun q => h (V.int.inj q)]
theorem ed_ltS {x y : Str} (ha : EvD K ta σ H (.str x)) (hb : EvD K tb σ H (.str y)) :
    EvD K (tOp (fun x y H Q => ∃ i j : Str, x = .str i ∧ y = .str j ∧ Q (.bl (decide (i.cps.toList < j.cps.toList))) H) ta tb) σ H (.bool (decide (x.cps.toList < y.cps.toList))) :=
  ed_of_bool (ev_op (ev_str ha) (ev_str hb) fun H1 _ Q q => ⟨x, y, rfl, rfl, q H1 (Ex.refl _)⟩)
theorem ed_ixLz {ds : List PyData} {z : Int} {k : Nat} (ha : EvD K ta σ H (.list ds)) (hb : EvD K tb σ H (.int z)) (hz : z = (k : Int)) (h : ds[k]? = some d) : EvD K (tOp (rIxL K) ta tb) σ H d := by
  subst hz
  exact ed_ixL ha hb h
theorem ed_ixTz {ds : List PyData} {z : Int} {k : Nat} (ha : EvD K ta σ H (.tuple ds)) (hb : EvD K tb σ H (.int z)) (hz : z = (k : Int)) (h : ds[k]? = some d) : EvD K (tOp (rIxT K) ta tb) σ H d := by
  subst hz
  exact ed_ixT ha hb h
theorem etI_lt {i j : Int} (ha : EvD K ta σ H (.int i)) (hb : EvD K tb σ H (.int j)) : EvT (tTest (tOp (rI0 fun i j => .bl (decide (i < j))) ta tb)) σ H (decide (i < j)) := et_bool (ed_B0 (g := fun i j => decide (i < j)) ha hb)
theorem etI_gt {i j : Int} (ha : EvD K ta σ H (.int i)) (hb : EvD K tb σ H (.int j)) : EvT (tTest (tOp (rI0 fun i j => .bl (decide (j < i))) ta tb)) σ H (decide (j < i)) := et_bool (ed_B0 (g := fun i j => decide (j < i)) ha hb)

/-! ### tables: dicts of text keys -/
def Tab (K : PySem.W.Frag) (H : Hp) (kvs : List (Key × V)) (tab : List (Str × PyData)) : Prop :=
  Paired (fun (kv : Key × V) (e : Str × PyData) => kv.1 = .inr e.1 ∧ Dp K H kv.2 e.2) kvs tab
theorem tab_same {H' : Hp} (e : Ex H H') : ∀ {kvs : List (Key × V)} {tab : List (Str × PyData)}, Tab K H kvs tab → Tab K H' kvs tab
  | _, _, .nil => .nil
  | _, _, .cons h t => .cons ⟨h.1, dp_same e h.2⟩ (tab_same e t)
theorem tab_len : ∀ {kvs : List (Key × V)} {tab : List (Str × PyData)}, Tab K H kvs tab → kvs.length = tab.length
  | _, _, .nil => rfl
  | _, _, .cons _ t => by rw [List.length_cons, List.length_cons, tab_len t]
theorem tab_val : ∀ {kvs : List (Key × V)} {tab : List (Str × PyData)} {t : Str}, Tab K H kvs tab →
    (tab.lookup t = none ∧ valV kvs (Sum.inr t : Key) = none) ∨ ∃ v d, tab.lookup t = some d ∧ valV kvs (Sum.inr t : Key) = some v ∧ Dp K H v d
  | _, _, _, .nil => .inl ⟨rfl, valV_nil⟩
  | (k, v) :: _, (s, d) :: _, t, .cons h r => by
    obtain ⟨h1, h2⟩ := h
    have h1 : k = Sum.inr s := h1
    subst h1
    by_cases e : s = t
    · subst e
      refine .inr ⟨v, d, ?_, valV_pos rfl, h2⟩
      rw [List.lookup_cons]
      simp
    · have n1 : ¬ (Sum.inr s : Key) = Sum.inr t := fun q => e (Sum.inr.inj q)
      rw [List.lookup_cons, valV_neg n1]
      have n2 : (t == s) = false := beq_eq_false_iff_ne.mpr fun q => e q.symm
      rw [n2]
      exact tab_val r
theorem ed_dget {i : Nat} {p : Addr} {kvs : List (Key × V)} {tab : List (Str × PyData)} {t : Str} (hi : σ[i]? = some (some (.ref p))) (hp : H p = some (.dK kvs)) (ht : Tab K H kvs tab)
    (hy : EvD K ty σ H (.str t)) (hx : EvD K tx σ H d) : EvD K (tDGet2 (tVar i) ty tx) σ H ((tab.lookup t).getD d) := fun H1 e Q q => by
  refine ⟨_, hi, p, rfl, .inl ⟨kvs, .inl (e _ _ hp)⟩, ?_⟩
  refine hy H1 e _ fun y H2 e2 hy => ?_
  cases hy
  refine hx H2 (e.trans e2) _ fun z H3 e3 hz => ?_
  refine ⟨valV kvs (Sum.inr t : Key), .inl ⟨kvs, Sum.inr t, .inl (e3 _ _ (e2 _ _ (e _ _ hp))), rfl, rfl⟩, ?_⟩
  rcases tab_val (t := t) ht with ⟨h1, h2⟩ | ⟨v, d', h1, h2, h3⟩
  · rw [h1] at q
    rw [h2]
    exact q z H3 (e2.trans e3) (dp_same (hid_late e2) hz)
  · rw [h1] at q
    rw [h2]
    exact q v H3 (e2.trans e3) (dp_same (hid_base e (e2.trans e3)) h3)
end
theorem range_map_get {α β : Type} (xs : List α) (g : α → β) (z : α) : (List.range xs.length).map (fun i => g (xs.getD i z)) = xs.map g := by
  refine List.ext_getElem? fun i => ?_
  rw [List.getElem?_map, List.getElem?_map]
  by_cases h : i < xs.length
  · rw [List.getElem?_range h, List.getElem?_eq_getElem h]
    show some (g (xs.getD i z)) = some (g xs[i])
    rw [List.getD_eq_getElem?_getD, List.getElem?_eq_getElem h]
    rfl
  · rw [List.getElem?_eq_none (by rw [List.length_range]; omega), List.getElem?_eq_none (by omega)]
    rfl
/-! ### rules with the written part named -/
theorem ix_listK {X : Cx} (K : PySem.W.Frag) (h : X.K = K := by rfl) : IxR X (rIxL K) := h ▸ ix_list
theorem ix_tupK {X : Cx} (K : PySem.W.Frag) (h : X.K = K := by rfl) : IxR X (rIxT K) := h ▸ ix_tup
theorem call_isBK {X : Cx} (K : PySem.W.Frag) (h : X.K = K := by rfl) : CallR X (.builtin "isinstance") (rIsB K) := h ▸ call_isB
theorem cr_allK {X : Cx} (K : PySem.W.Frag) (hc : X.calm = true) (h : X.K = K := by rfl) : CallR X (.builtin "all") (rAll K) := h ▸ cr_all hc
theorem cr_sumK {X : Cx} (K : PySem.W.Frag) (hc : X.calm = true) (h : X.K = K := by rfl) : CallR X (.builtin "sum") (rSum K) := h ▸ cr_sum hc
theorem call_lenK {X : Cx} (K : PySem.W.Frag) (h : X.K = K := by rfl) : CallR X (.builtin "len") (rLenK K) := h ▸ call_len_seq
theorem pg_tupK {X : Cx} (K : PySem.W.Frag) {es : List Expr} {k : Nat} {pos : Pos} {t : TGs} {n : Nat} (hc : X.calm = true) (h : PGs X es t) (hK : X.K = K := by rfl)
    (hn : (assignEach es X.env).length = n := by rfl) (hst : (assignEach es X.env).findIdx? (·.1) = none := by rfl) : PG X (.Tuple es k pos) (gTup K n t) := hK ▸ pg_tup hc h hn hst
theorem mem_of_lookup {α : Type} : ∀ {l : List (Str × α)} {t : Str} {d : α}, l.lookup t = some d → (t, d) ∈ l
  | [], _, _, h => by simp at h
  | (s, x) :: r, t, d, h => by
    rw [List.lookup_cons] at h
    by_cases e : t = s
    · subst e
      simp at h
      subst h
      exact List.mem_cons_self
    · have n : (t == s) = false := beq_eq_false_iff_ne.mpr e
      rw [n] at h
      exact List.mem_cons_of_mem _ (mem_of_lookup h)
theorem paired_app {α β : Type} {F : α → β → Prop} : ∀ {a c : List α} {b d : List β}, Paired F a b → Paired F c d → Paired F (a ++ c) (b ++ d)
  | _, _, _, _, .nil, h => h
  | _, _, _, _, .cons h t, g => .cons h (paired_app t g)
/-- one behind the other, all of them -/
def ascS : List Str → Prop := fun ts => ∀ (i : Nat) (x y : Str), ts[i]? = some x → ts[i + 1]? = some y → x.cps.toList < y.cps.toList
theorem asc_lt {ts : List Str} (h : ascS ts) {i j : Nat} (hij : i < j) {x y : Str} (hx : ts[i]? = some x) (hy : ts[j]? = some y) : x.cps.toList < y.cps.toList := by
  obtain ⟨k, rfl⟩ : ∃ k, j = i + 1 + k := ⟨j - i - 1, by omega⟩
  clear hij
  induction k generalizing y with
  | zero => exact h i x y hx hy
  | succ k ih =>
    have hl : i + 1 + k < ts.length := by
      have := (List.getElem?_eq_some_iff.mp hy).1
      omega
    have h1 := ih (y := ts[i + 1 + k]) (List.getElem?_eq_getElem hl)
    exact List.lt_trans h1 (h _ _ _ (List.getElem?_eq_getElem hl) hy)
/-- if c: .. (not so); then the rest -/
theorem q_not {K : PySem.W.Frag} {σ : L2.St} {Hv H : Hp} {c : TT} {t u : TS} {D : Ends} (h : EvT c σ Hv false) (e : Ex Hv H) (k : ∀ H2, Ex H H2 → u D σ H2) :
    tSeq (tIfS c t tNext) u D σ H := h H e _ fun H2 e2 => iteF (k H2 e2)
theorem dpAll_rev {K : PySem.W.Frag} {H : Hp} : ∀ {vs : List V} {ds : List PyData}, DpAll K H vs ds → DpAll K H vs.reverse ds.reverse
  | _, _, .nil => .nil
  | _, _, .cons h t => by
    rw [List.reverse_cons, List.reverse_cons]
    exact dpAll_app (dpAll_rev t) (.cons h .nil)
end VG

set_option maxHeartbeats 4000000
/-! what a law's own helpers keep: the pot of draws -/
namespace VG
open PySem PySem.Spec PyProof.Rows L2 Evl

/-- all but the object at a is as it was -/
def But (a : Addr) (H H' : Hp) : Prop := ∀ b o, b ≠ a → H b = some o → H' b = some o
theorem But.refl (a : Addr) (H : Hp) : But a H H := fun _ _ _ h => h
theorem But.trans {a : Addr} {H H1 H2 : Hp} (x : But a H H1) (y : But a H1 H2) : But a H H2 := fun b o n h => y b o n (x b o n h)
theorem But.ex {a : Addr} {H H' : Hp} (e : Ex H H') : But a H H' := fun b o _ h => e b o h
theorem But.upd {a : Addr} {H H' : Hp} {o : HO} (x : But a H H') : But a H (upd H' a o) := fun b u n h => by
  rw [upd_ne n]
  exact x b u n h
/-- what does not know a stays -/
theorem But.base {a : Addr} {H H' Hv : Hp} (x : But a H H') (e : Ex Hv H) (n : Hv a = none) : Ex Hv H' := fun b o h =>
  x b o (fun z => by rw [z, n] at h; cases h) (e b o h)
/-- H without a -/
def sans (a : Addr) (H : Hp) : Hp := fun b => if b = a then none else H b
theorem sans_none {a : Addr} {H : Hp} : sans a H a = none := if_pos rfl
theorem sans_ex {a : Addr} {H : Hp} : Ex (sans a H) H := fun b o h => by
  unfold sans at h
  by_cases z : b = a
  · rw [if_pos z] at h; cases h
  · rw [if_neg z] at h; exact h
theorem sans_at {a b : Addr} {H : Hp} (h : b ≠ a) : sans a H b = H b := if_neg h
theorem sans_of {a : Addr} {H H' : Hp} (e : Ex H H') (n : H a = none) : Ex H (sans a H') := fun b o h => by
  rw [sans_at (fun z => by rw [z, n] at h; cases h)]
  exact e b o h

def potL (u v c : Int) : HO := .lst [.int u, .int v, .int c]
/-- a pot at a, of which at most n digits were drawn by its seed -/
def Pot (a : Addr) (n : Nat) (H : Hp) : Prop := ∃ u v c : Int, H a = some (potL u v c) ∧ 0 ≤ u ∧ u.natAbs < 2 ^ 2000 ∧ 0 ≤ v ∧ v < 2 ^ 61 ∧ 0 ≤ c ∧ c ≤ n
theorem Pot.ex {a : Addr} {n : Nat} {H H' : Hp} (p : Pot a n H) (e : Ex H H') : Pot a n H' := by
  obtain ⟨u, v, c, h, r⟩ := p
  exact ⟨u, v, c, e _ _ h, r⟩
theorem Pot.le {a : Addr} {n m : Nat} {H : Hp} (p : Pot a n H) (h : n ≤ m) : Pot a m H := by
  obtain ⟨u, v, c, h1, h2, h3, h4, h5, h6, h7⟩ := p
  exact ⟨u, v, c, h1, h2, h3, h4, h5, h6, by omega⟩
theorem Pot.some {a : Addr} {n : Nat} {H : Hp} (p : Pot a n H) : H a ≠ none := by
  obtain ⟨u, v, c, h, _⟩ := p
  rw [h]
  exact fun z => nomatch z

/-! ### statements, one by one -/
section
variable {K : PySem.W.Frag} {σ : L2.St} {H0 H : Hp} {te : TE} {d : PyData} {D : Ends} {u t : TS} {g : TG} {c : TT} {b : Bool}
theorem qs_asg (h : EvD K te σ H0 d) (e : Ex H0 H) (k : ∀ v H1, Ex H H1 → Dp K (hid H0 H H1) v d → g v σ H1 (u D)) : tSeq (tAsg te g) u D σ H := h H e _ k
theorem qs_set {i : Nat} (h : EvD K te σ H0 d) (e : Ex H0 H) (k : ∀ v H1, Ex H H1 → Dp K (hid H0 H H1) v d → u D (σ.set i (some v)) H1) : tSeq (tAsg te (gName i)) u D σ H := h H e _ k
theorem qs_setI {i : Nat} {z : Int} (h : EvD K te σ H0 (.int z)) (e : Ex H0 H) (k : ∀ H1, Ex H H1 → u D (σ.set i (some (.int z))) H1) : tSeq (tAsg te (gName i)) u D σ H := h H e _ fun v H1 e1 hv => by
  cases hv
  exact k H1 e1
theorem qs_ret (h : EvD K te σ H0 d) (e : Ex H0 H) (k : ∀ v H1, Ex H H1 → Dp K (hid H0 H H1) v d → D.rt v H1) : tRet te D σ H := h H e _ k
theorem qs_retI {z : Int} (h : EvD K te σ H0 (.int z)) (e : Ex H0 H) (k : ∀ H1, Ex H H1 → D.rt (.int z) H1) : tRet te D σ H := h H e _ fun v H1 e1 hv => by
  cases hv
  exact k H1 e1
theorem qs_retB {z : Bool} (h : EvD K te σ H0 (.bool z)) (e : Ex H0 H) (k : ∀ H1, Ex H H1 → D.rt (.bl z) H1) : tRet te D σ H := h H e _ fun v H1 e1 hv => by
  cases hv
  exact k H1 e1
theorem qs_if {w : TS} (h : EvT c σ H0 b) (e : Ex H0 H) (h1 : b = true → ∀ H1, Ex H H1 → t { D with nx := u D } σ H1) (h2 : b = false → ∀ H1, Ex H H1 → w { D with nx := u D } σ H1) : tSeq (tIfS c t w) u D σ H := h H e _ fun H1 e1 => by
  cases b with
  | true => exact iteT (h1 rfl H1 e1)
  | false => exact iteF (h2 rfl H1 e1)
theorem ps_setI {i : Nat} {z : Int} (h : EvD K te σ H0 (.int z)) (e : Ex H0 H) (k : ∀ H1, Ex H H1 → D.nx (σ.set i (some (.int z))) H1) : tAsg te (gName i) D σ H := h H e _ fun v H1 e1 hv => by
  cases hv
  exact k H1 e1
/-- pot[k] = an int -/
theorem qs_pot {i j : Nat} {a : Addr} {z y : Int} {xs : List V} (h : EvD K te σ H0 (.int z)) (e : Ex H0 H) (hi : σ[i]? = some (some (.ref a))) (ha : H0 a = some (.lst xs)) (hy : y = (j : Int)) (hj : j < xs.length)
    (k : ∀ H1, Ex H H1 → u D σ (upd H1 a (.lst (xs.set j (.int z))))) : tSeq (tAsg te (gSub (tVar i) (tC (.int y)) rSetL)) u D σ H := h H e _ fun v H1 e1 hv => by
  cases hv
  subst hy
  refine ⟨_, hi, ?_⟩
  exact ⟨a, xs, (j : Int), j, rfl, rfl, e1 _ _ (e _ _ ha), Evl.ixN_nat hj, k H1 e1⟩
end

/-! ### numbers -/
section
variable {K : PySem.W.Frag} {σ : L2.St} {H : Hp} {ta tb te : TE} {d : PyData} {i j : Int}
theorem ed_abs (h : EvD K ta σ H (.int i)) : EvD K (tCB (fun xs H Q => ∃ i, xs = [.int i] ∧ Q (.int (if i < 0 then -i else i)) H) (tCons ta tNil)) σ H (.int (if i < 0 then -i else i)) := fun H1 e Q q =>
  h H1 e _ fun v H2 e2 hv => by
    cases hv
    exact ⟨i, rfl, q _ H2 e2 (.int _)⟩
theorem ed_intI (h : EvD K ta σ H (.int i)) : EvD K (tCB (fun xs H Q => (∃ i, xs = [.int i] ∧ Q (.int i) H) ∨ ∃ k, xs = [.bl k] ∧ Q (.int (if k then 1 else 0)) H) (tCons ta tNil)) σ H (.int i) := fun H1 e Q q =>
  h H1 e _ fun v H2 e2 hv => by
    cases hv
    exact .inl ⟨i, rfl, q _ H2 e2 (.int _)⟩
theorem ed_intB {b : Bool} (h : EvD K ta σ H (.bool b)) : EvD K (tCB (fun xs H Q => (∃ i, xs = [.int i] ∧ Q (.int i) H) ∨ ∃ k, xs = [.bl k] ∧ Q (.int (if k then 1 else 0)) H) (tCons ta tNil)) σ H (.int (if b then 1 else 0)) := fun H1 e Q q =>
  h H1 e _ fun v H2 e2 hv => by
    cases hv
    exact .inr ⟨b, rfl, q _ H2 e2 (.int _)⟩
theorem ed_max2 (ha : EvD K ta σ H (.int i)) (hb : EvD K tb σ H (.int j)) : EvD K (tCB (fun xs H Q => ∃ i j, xs = [.int i, .int j] ∧ Q (.int (if j > i then j else i)) H) (tCons ta (tCons tb tNil))) σ H (.int (if j > i then j else i)) := fun H1 e Q q =>
  ha H1 e _ fun v H2 e2 hv => hb H2 (e.trans e2) _ fun w H3 e3 hw => by
    cases hv
    cases hw
    exact ⟨i, j, rfl, q _ H3 (e2.trans e3) (.int _)⟩
theorem ed_min2 (ha : EvD K ta σ H (.int i)) (hb : EvD K tb σ H (.int j)) : EvD K (tCB (fun xs H Q => ∃ i j, xs = [.int i, .int j] ∧ Q (.int (if j < i then j else i)) H) (tCons ta (tCons tb tNil))) σ H (.int (if j < i then j else i)) := fun H1 e Q q =>
  ha H1 e _ fun v H2 e2 hv => hb H2 (e.trans e2) _ fun w H3 e3 hw => by
    cases hv
    cases hw
    exact ⟨i, j, rfl, q _ H3 (e2.trans e3) (.int _)⟩
/-- ** of great ints -/
def CPowX (i j : Int) : Prop := 0 ≤ j ∧ (Builtin.Int.intBits i : Int) * j ≤ 2 ^ 27
theorem op_powX {X : Cx} : OpR X (binaryOp .Pow) (rI CPowX fun i j => .int (i ^ j.toNat)) := opI fun _ _ _ _ _ _ _ hc q => pow_int hc.1 hc.2 q
theorem ed_val {i' : Int} (e : i = i') (h : EvD K ta σ H (.int i)) : EvD K ta σ H (.int i') := e ▸ h
theorem ed_ifE {tc : TT} {b : Bool} (hc : EvT tc σ H b) (h1 : b = true → EvD K ta σ H d) (h2 : b = false → EvD K tb σ H d) : EvD K (tIf tc ta tb) σ H d := fun H1 e Q q =>
  hc H1 e _ fun H2 e2 => by
    cases b with
    | true => exact iteT (h1 rfl H2 (e.trans e2) _ fun v H3 e3 hv => q v H3 (e2.trans e3) (dp_same (hid_late e2) hv))
    | false => exact iteF (h2 rfl H2 (e.trans e2) _ fun v H3 e3 hv => q v H3 (e2.trans e3) (dp_same (hid_late e2) hv))
theorem etI_ge {i j : Int} (ha : EvD K ta σ H (.int i)) (hb : EvD K tb σ H (.int j)) : EvD K (tOp (rI0 fun i j => .bl (decide (j ≤ i))) ta tb) σ H (.bool (decide (j ≤ i))) := ed_B0 (g := fun i j => decide (j ≤ i)) ha hb
end
/-! ### what the helpers promise -/
def spTake : Sp := fun vs H Q _ => ∃ (a : Addr) (n : Nat) (k : Int), vs = [.ref a, .int k] ∧ Pot a n H ∧ n ≤ 1000000 ∧ 0 < k ∧ k ≤ 1000000 ∧
  ∀ (r : Int) H', 0 ≤ r → r < k → But a H H' → Pot a (n + 1) H' → Q (.int r) H'
def spPot (K : PySem.W.Frag) : Sp := fun vs H Q _ => ∃ (a : Addr) (ns : List Int) (p : Nat), vs = [.ref a, .int (p : Int)] ∧ SqL K H a (ns.map V.int) ∧ ns.length ≤ 63 ∧ p ≤ 1000 ∧
  ∀ q H', H q = none → Ex H H' → Pot q 0 H' → Q (.ref q) H'
/-- one of a list's data -/
def spOne (K : PySem.W.Frag) : Sp := fun vs H Q _ => ∃ (a b : Addr) (n : Nat) (xs : List V), vs = [.ref a, .ref b] ∧ Pot a n H ∧ n ≤ 1000000 ∧ b ≠ a ∧ SqL K H b xs ∧ 0 < xs.length ∧ xs.length ≤ 1000 ∧
  ∀ v H', v ∈ xs → But a H H' → Pot a (n + 1) H' → Q v H'
theorem nd_pool {ts : List Str} {k : Nat} (h : ts.Nodup) : (ts.eraseIdx k).Nodup := h.sublist (List.eraseIdx_sublist _ _)
/-- digits drawn from a pot: some of a pool -/
def spSome (K : PySem.W.Frag) : Sp := fun vs H Q _ => ∃ (a b : Addr) (n m : Nat) (ts : List Str), vs = [.ref a, .ref b, .int (m : Int)] ∧ Pot a n H ∧ n + m ≤ 1000000 ∧ b ≠ a ∧ SqL K H b (ts.map V.str) ∧
  ts.Nodup ∧ m ≤ ts.length ∧ ts.length ≤ 1000 ∧ ∀ (q : Addr) (us : List Str) (H' : Hp), us.Nodup → (∀ u ∈ us, u ∈ ts) → us.length = m → H q = none → But a H H' → Pot a (n + m) H' → H' q = some (.lst (us.map V.str)) → Q (.ref q) H'
/-- how many cells are looked at -/
def spCells (K : PySem.W.Frag) : Sp := fun vs H Q _ => ∃ (a : Addr) (ns : List Int) (z : Int), vs = [.ref a, .int z] ∧ SqL K H a (ns.map V.int) ∧ ns.length ≤ 63 ∧ 0 ≤ z ∧ z ≤ 100 ∧
  ∀ q (m : Nat) H', m ≤ 100 → H q = none → Ex H H' → H' q = some (.lst ((List.range m).map fun i => V.int ((i : Nat) : Int))) → Q (.ref q) H'
theorem natAbs_lt {z : Int} {n : Nat} (h0 : 0 ≤ z) (h : z < (n : Int)) : z.natAbs < n := by omega
/-- the cell that a pot is made of -/
theorem ed_cell {K : PySem.W.Frag} {σ : L2.St} {H : Hp} {a : Addr} {ns : List Int} {p : Nat} {c1 c2 : Int} (h0 : σ[0]? = some (some (.ref a))) (h1 : σ[1]? = some (some (.int (p : Int)))) (hS : SqL K H a (ns.map V.int))
    (hc : -(2 ^ 64) < c1 ∧ c1 < 2 ^ 64) :
    ∃ z, EvD K (tIf (tTest (tOp (rI0 fun i j => .bl (decide (i < j))) (tVar 1) (tCB (rLenK K) (tCons (tVar 0) tNil)))) (tOp (rIxL K) (tVar 0) (tVar 1))
      (tOp (rI0 fun i j => .int (i + j)) (tOp (rI CMul fun i j => .int (i * j)) (tC (.int c1)) (tVar 1)) (tC (.int c2)))) σ H (.int z) := by
  have hs : Dp K H (.ref a) (.list (ns.map .int)) := .lst hS (dpAll_ints ns)
  by_cases h : p < ns.length
  · refine ⟨ns[p], ed_ifE (b := true) (et_is (etI_lt (ed_var h1 (.int _)) (ed_lenL (ed_var h0 hs))) ?_) (fun _ => ed_ixL (k := p) (ed_var h0 hs) (ed_var h1 (.int _)) ?_) (fun z => nomatch z)⟩
    · rw [List.length_map]
      exact decide_eq_true (by omega)
    · rw [List.getElem?_map, List.getElem?_eq_getElem h]
      rfl
  · refine ⟨c1 * p + c2, ed_ifE (b := false) (et_is (etI_lt (ed_var h1 (.int _)) (ed_lenL (ed_var h0 hs))) ?_) (fun z => nomatch z) (fun _ => ?_)⟩
    · rw [List.length_map]
      exact decide_eq_false (by omega)
    · exact ed_I0 (g := fun i j => i + j) (ed_I (g := fun i j => i * j) ed_int (ed_var h1 (.int _)) (.inl hc)) ed_int
/-- a fresh list of three ints is a pot -/
theorem pot_new {K : PySem.W.Frag} {H H1 : Hp} {v : V} {u x : Int} (hv : Dp K (hid H H H1) v (.list [.int u, .int x, .int 0])) (e : Ex H H1) (he : ∀ p, v = .ref p → H1 p = some (potL u x 0)) (h1 : 0 ≤ u) (h2 : u.natAbs < 2 ^ 2000) (h3 : 0 ≤ x) (h4 : x < 2 ^ 61) :
    ∃ q, v = .ref q ∧ Pot q 0 H1 := by
  cases hv with
  | lst h t => exact ⟨_, rfl, u, x, 0, he _ rfl, h1, h2, h3, h4, Int.le_refl _, Int.le_refl _⟩
theorem perm_out {α : Type} : ∀ {l : List α} {k : Nat} (h : k < l.length), ([l[k]] ++ l.eraseIdx k).Perm l
  | x :: r, 0, _ => List.Perm.refl _
  | x :: r, k + 1, h => by
    have hk : k < r.length := Nat.lt_of_succ_lt_succ h
    have ih := perm_out hk
    show ([r[k]] ++ (x :: r.eraseIdx k)).Perm (x :: r)
    exact (List.Perm.swap x r[k] (r.eraseIdx k)).trans (List.Perm.cons x ih)
theorem erase_map {α β : Type} (g : α → β) : ∀ (l : List α) (j : Nat), (l.map g).eraseIdx j = (l.eraseIdx j).map g
  | [], j => by simp
  | a :: r, 0 => by simp
  | a :: r, j + 1 => by
    have ih := erase_map g r j
    simp [ih]
end VG

set_option maxHeartbeats 4000000
/-! set(t) of a tuple of unlike texts, and how many are in it -/
namespace VG
open PySem PySem.Spec PyProof.Rows L2

abbrev inTake (xs : List Str) (i : Nat) : Str → Bool := fun z => (xs.take i).any (· == z)
theorem inTake_new {xs : List Str} (hn : xs.Nodup) {i : Nat} (hi : i < xs.length) : inTake xs i (xs.getD i Str.empty) = false := by
  cases hb : inTake xs i (xs.getD i Str.empty) with
  | false => rfl
  | true =>
    obtain ⟨y, hy, ey⟩ := List.any_eq_true.mp hb
    have e : y = xs.getD i Str.empty := eq_of_beq ey
    obtain ⟨j, hj⟩ := List.mem_iff_getElem?.mp hy
    rw [List.getElem?_take] at hj
    by_cases hji : j < i
    · rw [if_pos hji] at hj
      obtain ⟨hjl, ej⟩ := List.getElem?_eq_some_iff.mp hj
      have e2 : xs.getD i Str.empty = xs[i] := by
        rw [List.getD_eq_getElem?_getD, List.getElem?_eq_getElem hi]
        rfl
      rw [e, e2] at ej
      exact absurd ej (List.pairwise_iff_getElem.mp hn j i hjl hi hji)
    · rw [if_neg hji] at hj
      cases hj
theorem inTake_succ {xs : List Str} {i : Nat} (hi : i < xs.length) (z : Str) : inTake xs (i + 1) z = (inTake xs i z || decide (z = xs.getD i Str.empty)) := by
  have e2 : xs.getD i Str.empty = xs[i] := by
    rw [List.getD_eq_getElem?_getD, List.getElem?_eq_getElem hi]
    rfl
  show (xs.take (i + 1)).any (· == z) = _
  rw [List.take_add_one, List.getElem?_eq_getElem hi, List.any_append, e2]
  show (inTake xs i z || [xs[i]].any (· == z)) = _
  congr 1
  rw [List.any_cons, List.any_nil, Bool.or_false]
  by_cases h : z = xs[i]
  · rw [decide_eq_true h, h]
    exact beq_self_eq_true _
  · rw [decide_eq_false h]
    exact beq_eq_false_iff_ne.mpr fun q => h q.symm

section
variable {prog : Program} {w : World} {A : Around} {R : Result → Shared → Prop} {I : Addr} {fp wr : List Addr}
variable {G : Array GenState → Array GenState → Prop} {n : Nat} {P : Nat → Value → Prop} {St : Nat → Shared → Prop}
theorem SetOf_moved {h h' : Heap} {S : Addr} {F : Str → Bool} {c : Nat} (a : h.SetOf (PySem.strKind prog w) S F c)
    (k : ∀ o, h.get? S = some o → h'.get? S = some o) : h'.SetOf (PySem.strKind prog w) S F c := by
  obtain ⟨o, es, ep, t, ho, rest⟩ := a
  exact ⟨o, es, ep, t, k _ ho, rest⟩
theorem loopSet (W : WalksS prog w A.in1 I fp wr G n P St) (S : Addr) (hSf : S ∉ fp) (xs : List Str) (hsz : xs.length = n) (hn : xs.Nodup) (hb : xs.length + 1 < scanBound)
    (hval : ∀ i v, P i v → ∃ t, v = .str (xs.getD i Str.empty) t) :
    ∀ (m i : Nat) (s : Shared), n - i = m → i ≤ n → St i s → s.heap.SetOf (PySem.strKind prog w) S (inTake xs i) i →
      (∀ s', Moved (S :: wr) G s s' → s'.heap.SetOf (PySem.strKind prog w) S (inTake xs n) n → R (.ok (.ret .none)) s') →
      codeAny (model prog w) A (.builtin "set.update.loop" ⟨[.ref S, .ref I], []⟩) R s := by
  have nw : S ∉ wr := fun h => hSf (W.sub _ h)
  have more : ∀ b ∈ wr, b ∈ S :: wr := fun b hb => List.mem_cons_of_mem _ hb
  intro m
  induction m with
  | zero =>
    intro i s hm hi hst hS hR
    obtain rfl : i = n := by omega
    refine codeAny_builtin PyProof.Rows.F.entry_set_update_loop ?_
    rw [Around.under_plainId PyProof.Rows.F.plain_set_update_loop _]
    show wpAny _ A.in1 (pyNext (.ref I) >>= _) _ _ s
    refine wpAny_bind (W.done s _ _ hst ?_)
    intro s' hmv
    show wpAny _ A.in1 (ret Value.none) _ _ s'
    exact wpAny_pure (hR s' (hmv.mono more) (SetOf_moved hS fun o ho => hmv.heap S _ nw ho))
  | succ m ih =>
    intro i s hm hi hst hS hR
    have lt : i < n := by omega
    have ltx : i < xs.length := by omega
    refine codeAny_builtin PyProof.Rows.F.entry_set_update_loop ?_
    rw [Around.under_plainId PyProof.Rows.F.plain_set_update_loop _]
    show wpAny _ A.in1 (pyNext (.ref I) >>= _) _ _ s
    refine wpAny_bind (W.item i s _ _ lt hst ?_)
    intro v s' hP hst' hmv
    obtain ⟨t, rfl⟩ := hval i v hP
    have hS' := SetOf_moved hS fun o ho => hmv.heap S _ nw ho
    show wpAny _ A.in1 (holding [Value.str (xs.getD i Str.empty) t] (setAdd S (.str (xs.getD i Str.empty) t)) >>= _) _ _ s'
    refine wpAny_bind (wpAny_holding ?_)
    unfold setAdd
    refine wpAny_holding ?_
    refine wpAny_bind ((PySem.strKind prog w).pyHash (k := xs.getD i Str.empty) (strKind_is _ _ _ _) ?_)
    refine wpAny_setAddHashed_of (knd := PySem.strKind prog w) (s := { s' with toks := s'.toks + 1 }) (strKind_is _ _ _ _) rfl hS' (by omega) ?_
    intro h' hsb hS2
    have hS3 : h'.SetOf (PySem.strKind prog w) S (inTake xs (i + 1)) (i + 1) := by
      refine SetOf_congr hS2 (fun z => ?_) ?_
      · exact (inTake_succ ltx z).symm
      · rw [if_neg (by rw [inTake_new hn ltx]; exact Bool.false_ne_true)]
    have off : ∀ b, b ≠ S → ∀ o, s'.heap.get? b = some o → h'.get? b = some o := fun b nb o e => (hsb.2 b nb).trans e
    refine wpAny_pure ⟨plainId_quiet PyProof.Rows.F.plain_set_update_loop _, ?_⟩
    refine ih (i + 1) _ (by omega) lt (W.frame _ s' _ _ hst' (Nat.le_succ _) ?_) hS3 ?_
    · intro b hb' o e
      exact off b (fun h => hSf (h ▸ hb')) o e
    · intro s'' hm2 hS''
      refine hR s'' (Moved.trans W.gtrans ((hmv.mono more).then_heap (Nat.le_succ _) ?_) hm2) hS''
      intro b o hb' e
      exact off b (fun h => hb' (h ▸ List.mem_cons_self)) o e
end

/-- a new set -/
abbrev nset (led : Bool) : Obj := { cls := .type "set", dict := none, data := .set #[] 0 (.fresh 0 0 led) }
section
variable {prog : Program} {w : World} {A : Around} {E : Value → Shared → Prop} {s : Shared}
set_option maxHeartbeats 3200000 in
theorem call_setT {l : Addr} {items : Array Value} {xs : List Str} {Q : Value → Shared → Prop}
    (hh : A.handled = none) (hl : s.heap.IsTuple l items) (hi : PyProof.Rows.StrsAre items.toList xs) (hn : xs.Nodup) (hb : xs.length + 1 < scanBound)
    (h : ∀ (h' : Heap) (tk : Nat), h'.SetOf (PySem.strKind prog w) s.heap.objs.size (inTake xs xs.length) xs.length →
      (∀ b o, b < s.heap.objs.size → s.heap.get? b = some o → h'.get? b = some o) → Q (.ref s.heap.objs.size) { s with heap := h', toks := tk }) :
    wpAny (model prog w) A (call (.type "set") [.ref l]) Q E s := by
  obtain ⟨c, tl, hmro⟩ := PySem.F.called_set.mro
  have hmade := PySem.F.called_set.made
  have hsub := PySem.F.called_set.sub
  have hsz : xs.length = items.size := by rw [← StrsAre.len_eq hi, Array.length_toList]
  refine wpAny_call (codeAny_of_tree ?_)
  show wpAny _ _ (callAny (.type "set") _) _ _ _
  refine wpAny_pure ⟨Code.quiet_builtin _ (by decide +kernel), ?_⟩
  refine codeAny_builtin PySem.F.entry_type_call ?_
  rw [Around.under_plain (weight_type_call_type "set" [.ref l] []) rfl]
  have h1 := PySem.F.called_set.notType
  have h2 := PySem.F.called_set.canCreate
  have hct := PySem.F.typeCall_set_1 (.ref l)
  repeat (any_goals (first | assumption | wp_step))

  refine codeAny_mono (code_set_new_1 (.ref l) (E := E) (Q₁ := fun obj s₁ =>
    ∃ led : Bool, obj = .ref s.heap.objs.size ∧ s₁ = { s with heap := s.heap.push (nset led) }) fun led => ⟨led, rfl, rfl⟩) ?_
  intro r s₁ hr
  match r, hr with
  | .error e, hr => exact hr
  | .ok .next, hr => exact hr.elim
  | .ok .brk, hr => exact hr.elim
  | .ok .cont, hr => exact hr.elim
  | .ok (.ret obj), hr =>
    obtain ⟨led, rfl, rfl⟩ := hr
    have hS : (s.heap.push (nset led)).get? s.heap.objs.size = some (nset led) := Heap.get?_push_size _ rfl
    have hT : Shared.TypeIs { s with heap := s.heap.push (nset led) } (.ref s.heap.objs.size) "set" := ⟨_, hS, rfl⟩
    have hli := PySem.F.called_set.init.lookup
    have hbi := PySem.F.called_set.init.bind (.ref s.heap.objs.size)
    repeat (any_goals (first | assumption | wp_step))

    refine codeAny_mono (codeAny_call_builtin (R := wants (fun r s₂ => r = .none ∧ ∃ h' tk, s₂ = { s with heap := h', toks := tk } ∧
        h'.SetOf (PySem.strKind prog w) s.heap.objs.size (inTake xs xs.length) xs.length ∧
        (∀ b o, b < s.heap.objs.size → s.heap.get? b = some o → h'.get? b = some o)) E)
      PySem.F.called_set.init.plain PySem.F.entry_set_init (check_set_init_1 hT ?_)) ?_
    · obtain ⟨⟨ocls, odict, odata, oslots⟩, hol, hcl, nl, hdl⟩ := hl
      simp only at hcl hdl
      subst hcl
      subst hdl
      have hol' : (s.heap.push (nset led)).get? l = some ⟨.type "tuple", odict, .seq items nl, oslots⟩ := Heap.get?_push_of_some _ hol
      have hsls := PySem.F.sub_tuple_set
      have hslf := PySem.F.sub_tuple_frozenset
      have hne : (Value.type "tuple" == Value.type "dict") = false := by decide
      have hl1 : (s.heap.push (nset led)).IsTuple l items := ⟨_, hol', rfl, nl, rfl⟩
      unfold Builtin.«set.__init__» noKeywords Builtin.Frozenset.updateFrom
      generalize hPI : pyIter = PI
      wp_walk
      subst hPI

      refine wpAny_pyIter_tuple hl1 ?_
      refine wpAny_bind (wpAny_runValue ?_)
      have hlS : l < s.heap.objs.size := Heap.lt_size hol
      have hh3 : A.in1.in1.in1.handled = none := by simp [hh]
      have hps : (s.heap.push (nset led)).objs.size = s.heap.objs.size + 1 := Heap.size_push ..
      have hneI : l ≠ (s.heap.push (nset led)).objs.size := by
        rw [hps]
        exact Nat.ne_of_lt (Nat.lt_succ_of_lt hlS)
      have hSf : s.heap.objs.size ∉ [(s.heap.push (nset led)).objs.size, l] := by
        intro hm
        rcases List.mem_cons.mp hm with q | q
        · exact absurd (q.trans hps) (Nat.ne_of_lt (Nat.lt_succ_self _))
        · exact absurd (List.mem_singleton.mp q) (Nat.ne_of_gt hlS)
      have hval : ∀ (i : Nat) (v : Value), items[i]? = some v → ∃ t, v = .str (xs.getD i Str.empty) t := fun i v hv =>
        SS.strs_at hi i v (by rw [Array.getElem?_toList]; exact hv)
      rw [hsz]
      refine loopSet ((Walks.tuple hh3 _ l hneI items).toS) s.heap.objs.size hSf xs hsz hn hb hval (items.size - 0) 0 _ (by omega) (Nat.zero_le _)
        ⟨⟨_, Heap.get?_push_size _ rfl, rfl, rfl⟩, (hl1.push _)⟩ ?_ ?_
      · have hget := Heap.get?_push_of_some { cls := .type "tuple_iterator", data := .fields #[.ref l, .int 0 0] } hS
        exact PyProof.Rows.SetOf_congr ((PyProof.Rows.setObjOf_fresh (knd := PySem.strKind prog w) led).setOf hget (by unfold scanBound; omega)) (fun _ => rfl) rfl
      · intro s' hm hS'
        obtain ⟨h', g', d', tk', os'⟩ := s'
        obtain rfl : g' = s.gens := hm.gens
        obtain rfl : d' = s.drawn := hm.drawn
        obtain rfl : os' = s.os := hm.os
        show wpAny _ _ _ _ _ _
        refine wpAny_pure ?_
        show wpAny _ _ (ret Value.none) _ _ _
        refine wpAny_pure ⟨rfl, h', tk', rfl, hS', ?_⟩
        intro b o hb' e
        refine hm.heap b o ?_ (Heap.get?_push_of_some _ (Heap.get?_push_of_some _ e))
        intro hm'
        rcases List.mem_cons.mp hm' with q | q
        · exact absurd q (Nat.ne_of_lt hb')
        · have q2 := (List.mem_singleton.mp q).trans hps
          exact absurd q2 (Nat.ne_of_lt (Nat.lt_succ_of_lt hb'))
    · intro r₂ s₂ hr₂
      match r₂, hr₂ with
      | .error e, hr₂ => exact hr₂
      | .ok .next, hr₂ => exact hr₂.elim
      | .ok .brk, hr₂ => exact hr₂.elim
      | .ok .cont, hr₂ => exact hr₂.elim
      | .ok (.ret r), hr₂ =>
        obtain ⟨rfl, h', tk, rfl, hS', hk'⟩ := hr₂
        repeat (any_goals (first | assumption | wp_step))
        exact h _ _ hS' hk'
end

/-- len(set(a)), a a tuple of unlike texts -/
def tLenSetS (K : PySem.W.Frag) (ta : TE) : TE := fun σ H Q => ta σ H fun x H1 => ∃ (l : Addr) (ts : List Str),
  x = .ref l ∧ SqT K H1 l (ts.map V.str) ∧ ts.Nodup ∧ ts.length ≤ 1000 ∧ Q (.int (ts.length : Nat)) H1
theorem strs_are : ∀ {ts : List Str} {us : List Value}, Vals (ts.map V.str) us → PyProof.Rows.StrsAre us ts
  | [], _, .nil => .nil
  | n :: ns, _, .cons r t => by
    obtain ⟨k, rfl⟩ := r
    exact .cons n k (strs_are t)
theorem pe_lenSetS {X : Cx} {a : Expr} {ta : TE} {p p2 q pos : Pos} (hg : Gl X "len") (hm : X.mg "len" = none) (hg2 : Gl X "set") (hm2 : X.mg "set" = none)
    (ha : PE X a ta) (hc : X.calm = true := by rfl) (na : starEach [a] X.env = (false, eval a X.env) :: starEach [] X.env := by rfl) :
    PE X (.Call (.Name "len" p) [.Call (.Name "set" p2) [a] [] q] [] pos) (tLenSetS X.K ta) := by
  constructor
  intro pins s σ H Q I h
  refine Call_ (ld_blt I hg hm boot_len ?_)
  refine PyProof.Rows.callWith_builtin1 (PyProof.Rows.args_cons ?_ rfl) rfl rfl
  refine Call_ (ld_blt I hg2 hm2 boot_set ?_)
  refine PyProof.Rows.callWith_type1 (PyProof.Rows.args_cons (thn (ha.run pins s σ H _ I h) ?_) na) na rfl
  intro v s1 ⟨x, H1, I1, r1, q1⟩
  refine PyProof.Rows.args_nil ?_
  obtain ⟨l, ts, rfl, hq, hnd, hl, q1⟩ := q1
  cases r1
  obtain ⟨its, r, pl, hz⟩ := I1.tuple hq
  refine call_setT (xs := ts) (I1.ok.hd hc) pl (by simpa using strs_are r) hnd (by unfold scanBound; omega) ?_
  intro h' tk hS hk
  refine PyProof.Rows.args_nil ?_
  obtain ⟨o, es, ep, t, ho, hex, hd, _, _, _, hf, hn⟩ := hS
  have I2 : Inv X pins σ H1 { s1 with heap := h', toks := tk } := I1.kept fun b o e => hk b o (Heap.lt_size e) e
  exact call_len_set ho hex hd hf (by rw [hn]; omega) ⟨.int ts.length, H1, I2.tok _, ⟨_, by rw [hn]⟩, q1⟩
end VG

set_option maxHeartbeats 4000000
/-! data whose repr is short -/
namespace VG
open PySem PySem.Spec PyProof.Rows L2 Evl
mutual
def mild : PyData → Bool
  | .none => true
  | .bool _ => true
  | .int i => decide (i.natAbs < 10 ^ 30)
  | .str x => decide (x.cps.size ≤ 90) && x.cps.toList.all fun c => decide (c < 128)
  | .list xs => mildAll xs
  | .tuple xs => mildAll xs
  | .dict _ => false
def mildAll : List PyData → Bool
  | [] => true
  | x :: xs => mild x && mildAll xs
end
mutual
def nodes : PyData → Nat
  | .list xs => nodesAll xs + 1
  | .tuple xs => nodesAll xs + 1
  | .none => 1
  | .bool _ => 1
  | .int _ => 1
  | .str _ => 1
  | .dict _ => 1
def nodesAll : List PyData → Nat
  | [] => 0
  | x :: xs => nodes x + nodesAll xs
end
def Facts (d : PyData) : Prop := d.showable = true ∧ d.hasDict = false ∧ d.leavesShort 40 = true ∧ d.canLay0 = true ∧ d.weight + 1 ≤ 110 * nodes d ∧ d.depth ≤ nodes d
def FactsAll (ds : List PyData) : Prop := PyData.showableAll ds = true ∧ PyData.hasDictAll ds = false ∧ PyData.leavesShortAll 40 ds = true ∧ PyData.canLayAll0 ds = true ∧ PyData.weightAll ds ≤ 110 * nodesAll ds ∧ PyData.depthAll ds ≤ nodesAll ds
theorem int_facts {i : Int} (h : i.natAbs < 10 ^ 30) : Facts (.int i) := by
  have l1 : i.natAbs.log2 < 100 := PySem.Flt.log2_lt_of (by decide) (Nat.lt_of_lt_of_le h (by decide))
  refine ⟨?_, ?_, ?_, ?_, ?_, ?_⟩
  · simp only [PyData.showable]
    exact decide_eq_true (by omega)
  · simp only [PyData.hasDict]
  · simp only [PyData.leavesShort, PyData.shown]
    refine decide_eq_true ?_
    show (Str.ofString (toString i)).length ≤ 40
    rw [PySem.ofString_length]
    have := int_text_length_le10 (a := i) (k := 30) (by decide) h
    omega
  · simp only [PyData.canLay0]
  · simp only [PyData.weight, nodes]
    split <;> omega
  · simp only [PyData.depth, nodes]
    decide
theorem str_facts {x : Str} (h : x.cps.size ≤ 90) (hc : ∀ c ∈ x.cps.toList, c < 128) : Facts (.str x) := by
  refine ⟨?_, ?_, ?_, ?_, ?_, ?_⟩
  · simp only [PyData.showable]
  · simp only [PyData.hasDict]
  · simp only [PyData.leavesShort]
    exact List.all_eq_true.mpr fun c m => decide_eq_true (Nat.lt_of_lt_of_le (hc c m) (by decide))
  · simp only [PyData.canLay0]
    refine Array.all_eq_true.mpr fun i hi => decide_eq_true (Nat.lt_of_lt_of_le (hc _ ?_) (by decide))
    exact Array.getElem_mem_toList hi
  · simp only [PyData.weight, nodes]
    omega
  · simp only [PyData.depth, nodes]
    decide
mutual
theorem facts_of : ∀ d : PyData, mild d = true → Facts d
  | .none, _ => by refine ⟨?_, ?_, ?_, ?_, ?_, ?_⟩ <;> simp [PyData.showable, PyData.hasDict, PyData.leavesShort, PyData.canLay0, PyData.weight, nodes, PyData.depth]
  | .bool _, _ => by refine ⟨?_, ?_, ?_, ?_, ?_, ?_⟩ <;> simp [PyData.showable, PyData.hasDict, PyData.leavesShort, PyData.canLay0, PyData.weight, nodes, PyData.depth]
  | .int i, h => int_facts (by simpa [mild] using h)
  | .str x, h => by
    have h : x.cps.size ≤ 90 ∧ ∀ c ∈ x.cps.toList, c < 128 := by
      simp only [mild, Bool.and_eq_true, decide_eq_true_eq, List.all_eq_true] at h
      exact h
    exact str_facts h.1 h.2
  | .list xs, h => by
    obtain ⟨a, b, c, d, e, f⟩ := facts_all xs (by simpa [mild] using h)
    refine ⟨?_, ?_, ?_, ?_, ?_, ?_⟩
    · simpa only [PyData.showable] using a
    · simpa only [PyData.hasDict] using b
    · simpa only [PyData.leavesShort] using c
    · simpa only [PyData.canLay0] using d
    · simp only [PyData.weight, nodes]
      omega
    · simp only [PyData.depth, nodes]
      omega
  | .tuple xs, h => by
    obtain ⟨a, b, c, d, e, f⟩ := facts_all xs (by simpa [mild] using h)
    refine ⟨?_, ?_, ?_, ?_, ?_, ?_⟩
    · simpa only [PyData.showable] using a
    · simpa only [PyData.hasDict] using b
    · simpa only [PyData.leavesShort] using c
    · simpa only [PyData.canLay0] using d
    · simp only [PyData.weight, nodes]
      omega
    · simp only [PyData.depth, nodes]
      omega
  | .dict _, h => by simp [mild] at h
theorem facts_all : ∀ ds : List PyData, mildAll ds = true → FactsAll ds
  | [], _ => by refine ⟨?_, ?_, ?_, ?_, ?_, ?_⟩ <;> simp [PyData.showableAll, PyData.hasDictAll, PyData.leavesShortAll, PyData.canLayAll0, PyData.weightAll, nodesAll, PyData.depthAll]
  | x :: xs, h => by
    have h : mild x = true ∧ mildAll xs = true := by simpa [mildAll] using h
    obtain ⟨a, b, c, d, e, f⟩ := facts_of x h.1
    obtain ⟨a', b', c', d', e', f'⟩ := facts_all xs h.2
    refine ⟨?_, ?_, ?_, ?_, ?_, ?_⟩
    · simp only [PyData.showableAll, a, a', Bool.and_self]
    · simp only [PyData.hasDictAll, b, b', Bool.or_self]
    · simp only [PyData.leavesShortAll, c, c', Bool.and_self]
    · simp only [PyData.canLayAll0, d, d', Bool.and_self]
    · simp only [PyData.weightAll, nodesAll]
      omega
    · simp only [PyData.depthAll, nodesAll]
      omega
end
section
variable {K : PySem.W.Frag} {σ : L2.St} {H : Hp} {ta tb : TE} {ds es : List PyData}
/-- repr of a short tuple -/
theorem ed_reprT (ha : EvD K ta σ H (.tuple ds)) (hm : mildAll ds = true) (hn : nodesAll ds ≤ 90) :
    EvD K (tCB (fun xs H Q => ∃ v d, xs = [v] ∧ Dp K H v d ∧ d.showable = true ∧ d.hasDict = false ∧ d.depth ≤ 100 ∧ d.shown.length ≤ sizeLine ∧ (∃ a, v = .ref a) ∧ Q (.str d.shown) H) (tCons ta tNil)) σ H (.str (PyData.shown (.tuple ds))) := by
  obtain ⟨a, b, c, d, e, f⟩ := facts_of (.tuple ds) (by simpa [mild] using hm)
  have hN : nodes (.tuple ds) = nodesAll ds + 1 := by simp only [nodes]
  have h1 := PyData.shown_le 40 (by decide) (.tuple ds) c
  refine ed_repr ha (fun H v hv => by cases hv with | tup _ _ => exact ⟨_, rfl⟩) a b (by omega) ?_
  rw [sizeLine_eq]
  omega
theorem shaped_of {d : PyData} (hm : mild d = true) (hn : d.depth ≤ 64) : SeqAt.shaped d = true := by
  obtain ⟨a, b, c, e, f, g⟩ := facts_of d hm
  exact Bool.and_eq_true_iff.mpr ⟨e, decide_eq_true hn⟩
/-- x != y of equal data -/
theorem ed_neSame {d : PyData} (ha : EvD K ta σ H d) (hb : EvD K tb σ H d) (hm : mild d = true) (hn : d.depth ≤ 64) : EvD K (tOp (rNeD K) ta tb) σ H (.bool false) :=
  ed_op ha hb fun x y H' e hx hy H1 e1 Q q => by
    have hs := shaped_of hm hn
    refine ⟨d, d, dp_same e1 hx, dp_same e1 hy, hs, hs, ?_⟩
    rw [PySem.SeqAt.eqv_refl d (facts_of d hm).2.2.2.1]
    exact q _ H1 (Ex.refl _) (.bl _)
end
end VG
set_option maxHeartbeats 4000000
/-! t[::-1] of a tuple; comprehensions with a test; walks over the items of a dict -/
namespace VG
open PySem PySem.Spec PyProof.Rows L2 Evl

section
variable {prog : Program} {w : World} {A : Around} {E : Value → Shared → Prop} {s : Shared}
theorem fm_congr {α β : Type} {f g : α → Option β} : {l : List α} → (∀ x ∈ l, f x = g x) → l.filterMap f = l.filterMap g
  | [], _ => rfl
  | x :: l, h => by
    rw [List.filterMap_cons, List.filterMap_cons, h x (List.mem_cons_self ..), fm_congr fun y hy => h y (List.mem_cons_of_mem _ hy)]
theorem rev_range {α : Type} (xs : Array α) : ((List.range xs.size).filterMap fun (k : Nat) => xs[(((xs.size : Int) - 1) + (k : Int) * (-1)).toNat]?) = xs.toList.reverse := by
  have h := PySem.W.krv_all xs
  rw [← h, ← List.filterMap_reverse, ← PySem.W.krv_range, List.filterMap_map]
  refine fm_congr fun k hk => ?_
  have hk := List.mem_range.mp hk
  show xs[_]? = xs[xs.size - 1 - k]?
  congr 1
  omega
theorem rev_places (n : Nat) : Builtin.Slice.slicePlaces ((n : Int) - 1) (-1) (-1) = n := by
  unfold Builtin.Slice.slicePlaces
  rw [if_neg (by decide : ¬ (-1 : Int) > 0)]
  by_cases h : (n : Int) - 1 > -1
  · rw [if_pos h, show (- -1 : Int) = 1 by decide, Int.ediv_one]
    omega
  · rw [if_neg h]
    omega
theorem sliceApplied_rev {sl : Addr} {t : Tok} {n : Nat} {Q : Int × Int × Nat → Shared → Prop} (hs : s.heap.IsSliceOf sl .none .none (.int (-1) t)) (h : Q ((n : Int) - 1, -1, n) s) :
    wpAny (model prog w) A (Builtin.Slice.sliceApplied (.ref sl) (pure (n : Int))) Q E s := by
  obtain ⟨os, hos, hcs, hds⟩ := id hs
  unfold Builtin.Slice.sliceApplied Builtin.Slice.sliceFields
  refine wpAny_bind (wpAny_bind (wpAny_field hos hds (x := .none) rfl ?_))
  refine wpAny_bind (wpAny_field hos hds (x := .none) rfl ?_)
  refine wpAny_bind (wpAny_field hos hds (x := .int (-1) t) rfl (wpAny_pure ?_))
  refine wpAny_bind (slicePart_int ?_)
  show wpAny _ _ (if ((-1 : Int) == 0) = true then _ else _) _ _ s
  rw [if_neg (by decide)]
  refine wpAny_bind (slicePart_none ?_)
  refine wpAny_bind (slicePart_none ?_)
  refine wpAny_bind (wpAny_pure ?_)
  have e : Builtin.Slice.sliceAdjust none none (-1) (n : Int) = ((n : Int) - 1, -1) := by
    unfold Builtin.Slice.sliceAdjust
    first
      | rfl
      | simp
  show wpAny _ _ (match Builtin.Slice.sliceAdjust none none (-1) (n : Int) with | (lo, hi) => pure (lo, (-1 : Int), Builtin.Slice.slicePlaces lo hi (-1))) _ _ s
  rw [e]
  show wpAny _ _ (pure ((n : Int) - 1, (-1 : Int), Builtin.Slice.slicePlaces ((n : Int) - 1) (-1) (-1))) _ _ s
  rw [rev_places]
  exact wpAny_pure h
theorem getItem_tuple_rev {t sl : Addr} {items : Array Value} {k : Tok} {Q : Value → Shared → Prop} (ht : IsTup s.heap t items) (hs : s.heap.IsSliceOf sl .none .none (.int (-1) k))
    (h : Q (.ref s.heap.objs.size) { s with heap := s.heap.push { cls := .type "tuple", data := .seq items.toList.reverse.toArray } }) (hsz : items.size ≤ sizeLine) :
    wpAny (model prog w) A (getItem (.ref t) (.ref sl)) Q E s := by
  have hok : sizeOk (.seq items.toList.reverse.toArray) := by
    show items.toList.reverse.toArray.size ≤ sizeLine
    rw [List.size_toArray, List.length_reverse, Array.length_toList]
    exact hsz
  obtain ⟨os, hos, hcs, hds⟩ := id hs
  have hTs : s.TypeIs (.ref sl) "slice" := ⟨os, hos, hcs⟩
  unfold getItem
  try with_reducible refine wpAny_holding ?_
  first | refine wpAny_bind (wpAny_pure ?_) | skip
  refine wpAny_bind (wpAny_sequenceKey ht.typeIs (by decide) ?_)
  refine wpAny_bind (wpAny_callSpecial?_slot (name := Str.ofString "__getitem__") ht.typeIs PyProof.Rows.slot_tuple_getitem ?_)
  refine wpAny_call_entry PyProof.Rows.slot_tuple_getitem ht.typeIs entry_tuple_getitem ?_ (args_tuple_getitem _ _)
  show wpAny _ _ (Builtin.Tuple.tupleItemsOf (.ref t) >>= _) _ _ s
  refine wpAny_bind (tupleItemsOf_ ht ?_)
  refine wpAny_bind (wpAny_typeOf hTs ?_)
  rw [if_pos (by decide)]
  refine wpAny_bind (sliceApplied_rev hs ?_)
  have hno : ¬ ((((items.size : Int) - 1) == 0 && (-1 : Int) == 1 && items.size == items.size) = true) := by
    rw [show ((-1 : Int) == 1) = false by decide, Bool.and_false, Bool.false_and]
    exact Bool.false_ne_true
  show wpAny _ _ (if (((items.size : Int) - 1) == 0 && (-1 : Int) == 1 && items.size == items.size) = true then _ else _) _ _ s
  rw [if_neg hno, rev_range]
  first
    | exact wpAny_bind (m := Builtin.Tuple.tupleExact _) (wpAny_newObj_type (wpAny_pure ⟨_, rfl, wpAny_pure h⟩) hok)
    | exact wpAny_bind (m := Builtin.Tuple.tupleExact _) (wpAny_newObj_type (wpAny_bind (wpAny_pure (wpAny_pure ⟨_, rfl, wpAny_pure h⟩))) hok)
    | exact wpAny_bind (wpAny_bind (m := Builtin.Tuple.tupleExact _) (wpAny_newObj_type (wpAny_pure (wpAny_pure ⟨_, rfl, wpAny_pure h⟩)) hok))
    | exact wpAny_bind (wpAny_bind (m := Builtin.Tuple.tupleExact _) (wpAny_newObj_type (wpAny_pure ⟨_, rfl, wpAny_pure h⟩) hok))
end
/-- t[::-1] -/
def tRevT (K : PySem.W.Frag) (te : TE) : TE := fun σ H Q => te σ H fun x H1 => ∃ a xs, x = .ref a ∧ SqT K H1 a xs ∧ ∀ p, H1 p = none → Q (.ref p) (upd H1 p (.tup xs.reverse))
theorem pe_revT {X : Cx} {e : Expr} {te : TE} {k : Nat} {p1 p2 p3 pos : Pos} (he : PE X e te) :
    PE X (.Subscript e (.Slice none none (some (.UnaryOp .USub (.Constant (.int 1) k p1) p2)) p3) pos) (tRevT X.K te) := by
  constructor
  intro pins s σ H Q I h
  refine Subscript_ (thn (he.run pins s σ H _ I h) ?_)
  intro v s1 ⟨x, H1, I1, r1, a, xs, ex, hx, q⟩
  subst ex
  cases r1
  have hst : PO X (some (.UnaryOp .USub (.Constant (.int 1) k p1) p2)) (tPart (tUn (rU fun i => .int (-i)) (tC (.int 1)))) := po_some (pe_un un_neg pe_int)
  have hno := po_none (X := X)
  refine wpAny_Slice (thn (hno.run pins s1 σ H1 (fun o H2 => o = none ∧ H2 = H1) I1 ⟨rfl, rfl⟩) ?_)
  intro vl s2 ⟨l, H2, I2, pl, el, e2⟩
  subst el e2
  refine thn (hno.run pins s2 σ H2 (fun o H3 => o = none ∧ H3 = H2) I2 ⟨rfl, rfl⟩) ?_
  intro vu s3 ⟨u, H3, I3, pu, eu, e3⟩
  subst eu e3
  refine thn (hst.run pins s3 σ H3 (fun o H4 => o = some (-1) ∧ H4 = H3) I3 ⟨1, rfl, -1, rfl, rfl, rfl⟩) ?_
  intro vs s4 ⟨o, H4, I4, ps, eo, e4⟩
  subst eo e4
  cases pl
  cases pu
  cases ps with
  | int i t =>
  have I5 : Inv X pins σ H4 { s4 with heap := s4.heap.push { cls := .type "slice", data := .fields #[.none, .none, .int (-1) t] } } :=
    I4.kept (t' := s4.toks) (fun b ob q => Heap.get?_push_of_some _ q)
  obtain ⟨its, r, ht, hz⟩ := I5.tuple hx
  have hlen := r.length
  refine tail_any (T := "tuple") (ops := [.ref a, .ref s4.heap.objs.size]) ht.typeIs PyProof.Rows.slot_tuple_getitem.lookup ?_ (by with_unfolding_all rfl)
  refine getItem_tuple_rev ht (Heap.IsSliceOf.new _ .none .none (.int (-1) t)) ?_ (by rw [List.size_toArray]; omega)
  refine ⟨.ref _, _, I5.laid (t' := s4.toks) (o := .tup xs.reverse) (fun b ob q => Heap.get?_push_of_some _ q) (Nat.le_refl _) ?_, rfl, q _ (I5.hok.fresh (Nat.le_refl _))⟩
  exact ⟨by rw [List.length_reverse]; exact hz, _, r.reverse, ⟨_, Heap.get?_push_size _ rfl, rfl, _, rfl⟩⟩
theorem ed_revT {K : PySem.W.Frag} {σ : L2.St} {H : Hp} {te : TE} {ds : List PyData} (h : EvD K te σ H (.tuple ds)) : EvD K (tRevT K te) σ H (.tuple ds.reverse) := fun H1 e Q q =>
  h H1 e _ fun x H2 e2 hx => by
    obtain ⟨a, xs, rfl, h1, h2⟩ := dp_tup hx
    refine ⟨a, xs, rfl, sqT_same hid_ex h1, fun p hp => ?_⟩
    refine q _ _ (e2.trans (Ex.new hp)) (.tup (.inl (.inl ((hid_new (ex_none e2 hp)).trans upd_same))) ?_)
    exact dpAll_same (hid_on (Ex.new hp)) (dpAll_rev h2)
end VG

set_option maxHeartbeats 4000000
/-! comprehensions with a test; dicts of lists of pairs; the items of a dict -/
namespace VG
open PySem PySem.Spec PyProof.Rows L2 Evl

section
variable {K : PySem.W.Frag} {σ : L2.St} {H : Hp} {te tl ta tb ty : TE} {g : TG} {vs : List Nat} {d : PyData}
/-- one comprehension with a test over any walk -/
theorem lcF {J : It} {n : Nat} {G : Hp → Prop} {Y : Nat → Hp → V → Hp → Prop} {tt : TT} (w : Walk J n G Y) (b : Nat → Bool) (f : Nat → PyData) (hn : n ≤ 100000)
    {H1 : Hp} (e1 : Ex H H1) (hG : ∀ H', Ex H H' → G H')
    (hs : ∀ i x H' H'', i < n → Ex H H' → Y i H' x H'' → ∀ Qg : L2.St → Hp → Prop,
      (∀ σ2 H2, wipe σ2 vs = wipe σ vs → Ex H' H2 → EvT tt σ2 H (b i) → (b i = true → EvD K te σ2 H (f i)) → Qg σ2 H2) → g x (wipe σ vs) H'' Qg)
    {D : Addr} (hD : H1 D = none) {Q : VK} (q : ∀ v H2, Ex H1 H2 → Dp K (hid H H1 H2) v (.list (((List.range n).filter b).map f)) → Q v H2) :
    ∃ W : Nat → Nat → Hp → Prop, (∃ m, W 0 m (upd H1 D (.lst []))) ∧ ∀ i m H, W i m H → (J.stop i H ∧ Q (.ref D) H) ∨
      (J.go i H ∧ ∃ Nx : Hp → Prop, (∀ H', Nx H' → ∃ m', m' < m ∧ W (i + 1) m' H') ∧ ∀ x H', J.yld i H x H' →
        g x (wipe σ vs) H' fun σ2 H2 => wipe σ2 vs = wipe σ vs ∧ tt σ2 H2 fun b H3 =>
          if b = true then te σ2 H3 fun y H4 => ∃ acc, H4 D = some (.lst acc) ∧ acc.length < sizeLine ∧ Nx (upd H4 D (.lst (acc ++ [y]))) else Nx H3) := by
  refine lc_it w (D := D) (Qd := Q (.ref D)) (fun i H' => ∃ acc, Ex H1 H' ∧ H' D = some (.lst acc) ∧ DpAll K (fun b => if b = D then none else hid H H1 H' b) acc (((List.range i).filter b).map f))
    ⟨[], Ex.new hD, upd_same, .nil⟩ (fun i H' _ ⟨_, e, _⟩ => hG H' (e1.trans e)) ?_ ?_
  · rintro i x H' H'' hi ⟨acc, e, h1, h2⟩ y
    refine hs i x H' H'' hi (e1.trans e) y _ ?_
    intro σ2 H2 hw e2 hbt hev
    refine ⟨hw, ?_⟩
    refine hbt H2 ((e1.trans e).trans e2) _ fun H2' e2' => ?_
    have e2 := e2.trans e2'
    have hl : acc.length ≤ i := by
      rw [dpAll_len h2, List.length_map]
      have := List.length_filter_le b (List.range i)
      rw [List.length_range] at this
      exact this
    have off : ∀ (H3 : Hp) (acc' : List V) (H4 : Hp), (∀ c, c ≠ D → H4 c = H3 c) → ∀ Hx : Hp, Ex Hx H3 → (∀ b, Hx b ≠ none → b ≠ D) → (∀ b, Hx b ≠ none → (H b = none → H1 b = none)) →
        Ex Hx (fun b => if b = D then none else hid H H1 H4 b) := fun H3 acc' H4 h4 Hx ex nD vis b o hb => by
      have n0 : Hx b ≠ none := by
        rw [hb]
        exact fun z => nomatch z
      have nb := nD b n0
      show (if b = D then none else hid H H1 H4 b) = some o
      rw [if_neg nb, hid_see (vis b n0), h4 _ nb]
      exact ex _ _ hb
    have old1 : ∀ H3, Ex H2' H3 → Ex (fun b => if b = D then none else hid H H1 H' b) H3 := fun H3 e3 b o hb => by
      have hb : (if b = D then none else hid H H1 H' b) = some o := hb
      by_cases z : b = D
      · rw [if_pos z] at hb
        cases hb
      · rw [if_neg z] at hb
        exact e3 _ _ (e2 _ _ ((hid_some hb).1))
    have old2 : ∀ b, (fun b => if b = D then none else hid H H1 H' b) b ≠ none → b ≠ D := fun b hb z => hb (if_pos z)
    have old3 : ∀ b, (fun b => if b = D then none else hid H H1 H' b) b ≠ none → (H b = none → H1 b = none) := fun b hb => by
      by_cases z : b = D
      · exact absurd (if_pos z) hb
      · cases hq : hid H H1 H' b with
        | none =>
          refine absurd ?_ hb
          show (if b = D then none else hid H H1 H' b) = none
          rw [if_neg z]
          exact hq
        | some o => exact (hid_some hq).2
    cases hb : b i with
    | false =>
      refine iteF ⟨acc, e.trans e2, e2 _ _ h1, ?_⟩
      rw [List.range_succ, List.filter_append, List.filter_cons, hb, if_neg Bool.false_ne_true, List.filter_nil, List.append_nil]
      exact dpAll_same (off H2' acc H2' (fun _ _ => rfl) _ (old1 _ (Ex.refl _)) old2 old3) h2
    | true =>
      refine iteT (hev hb H2' ((e1.trans e).trans e2) _ fun v H3 e3 hv => ?_)
      have eD : H3 D = some (.lst acc) := e3 _ _ (e2 _ _ h1)
      refine ⟨acc, eD, sz_lt (by omega), acc ++ [v], ((e.trans e2).trans e3).mut hD, upd_same, ?_⟩
      rw [List.range_succ, List.filter_append, List.filter_cons, hb, if_pos rfl, List.filter_nil, List.map_append]
      refine dpAll_app (dpAll_same (off H3 (acc ++ [v]) _ (fun c hc => upd_ne hc) _ (old1 _ e3) old2 old3) h2) (.cons (dp_same (off H3 (acc ++ [v]) _ (fun c hc => upd_ne hc) (hid H H2' H3) hid_ex ?_ ?_) hv) .nil)
      · intro b hb z
        subst z
        refine hb (hid_no ?_ ?_)
        · exact ex_none e1 hD
        · rw [e2 _ _ h1]
          exact fun z => nomatch z
      · intro b hb hn
        cases hq : hid H H2' H3 b with
        | none => exact absurd hq hb
        | some o => exact ex_none (e.trans e2) ((hid_some hq).2 hn)
  · rintro H' ⟨acc, e, h1, h2⟩
    refine q _ H' e (.lst (.inl (.inl ((hid_new hD).trans h1))) (dpAll_same ?_ h2))
    intro b o hb
    have hb : (if b = D then none else hid H H1 H' b) = some o := hb
    by_cases z : b = D
    · rw [if_pos z] at hb
      cases hb
    · rw [if_neg z] at hb
      exact hb
/-! ### what is at q is no list and no tuple -/
def NoSq (H : Hp) (q : Addr) : Prop := ∀ o, H q = some o → (∀ xs, o ≠ .tup xs ∧ o ≠ .lst xs ∧ ∀ u, o ≠ .frz u (.tup xs) ∧ o ≠ .frz u (.lst xs))
theorem NoSq.dK {q : Addr} {kvs : List (Key × V)} (h : H q = some (.dK kvs)) : NoSq H q := fun o ho xs => by
  rw [h] at ho
  cases ho
  exact ⟨(fun z => nomatch z), (fun z => nomatch z), fun u => ⟨(fun z => nomatch z), (fun z => nomatch z)⟩⟩
theorem NoSq.frz {q : Addr} {kvs : List (Key × V)} {od : Obj} (h : H q = some (.frz od (.dK kvs))) : NoSq H q := fun o ho xs => by
  rw [h] at ho
  cases ho
  exact ⟨(fun z => nomatch z), (fun z => nomatch z), fun u => ⟨(fun z => nomatch z), (fun z => nomatch z)⟩⟩
theorem sqT_sans {q : Addr} (n : NoSq H q) {a : Addr} {xs : List V} (h : SqT K H a xs) : SqT K (sans q H) a xs := by
  rcases h with (h | ⟨o, h⟩) | h
  · exact .inl (.inl ((sans_at (fun z => (n _ (z ▸ h) xs).1 rfl)).trans h))
  · exact .inl (.inr ⟨o, (sans_at (fun z => ((n _ (z ▸ h) xs).2.2 o).1 rfl)).trans h⟩)
  · exact .inr h
theorem sqL_sans {q : Addr} (n : NoSq H q) {a : Addr} {xs : List V} (h : SqL K H a xs) : SqL K (sans q H) a xs := by
  rcases h with (h | ⟨o, h⟩) | h
  · exact .inl (.inl ((sans_at (fun z => (n _ (z ▸ h) xs).2.1 rfl)).trans h))
  · exact .inl (.inr ⟨o, (sans_at (fun z => ((n _ (z ▸ h) xs).2.2 o).2 rfl)).trans h⟩)
  · exact .inr h
mutual
theorem dp_sans {q : Addr} (n : NoSq H q) : ∀ {v : V} {d : PyData}, Dp K H v d → Dp K (sans q H) v d
  | _, _, .non => .non
  | _, _, .bl b => .bl b
  | _, _, .int i => .int i
  | _, _, .str x => .str x
  | _, _, .lst h t => .lst (sqL_sans n h) (dpAll_sans n t)
  | _, _, .tup h t => .tup (sqT_sans n h) (dpAll_sans n t)
theorem dpAll_sans {q : Addr} (n : NoSq H q) : ∀ {vs : List V} {ds : List PyData}, DpAll K H vs ds → DpAll K (sans q H) vs ds
  | _, _, .nil => .nil
  | _, _, .cons h t => .cons (dp_sans n h) (dpAll_sans n t)
end
theorem tab_sans {q : Addr} (n : NoSq H q) : ∀ {kvs : List (Key × V)} {tab : List (Str × PyData)}, Tab K H kvs tab → Tab K (sans q H) kvs tab
  | _, _, .nil => .nil
  | _, _, .cons h t => .cons ⟨h.1, dp_sans n h.2⟩ (tab_sans n t)
/-! ### dict(a list of pairs) -/
def pairD (e : Str × PyData) : PyData := .tuple [.str e.1, e.2]
theorem pairs_tab : ∀ {tab : List (Str × PyData)} {vs : List V}, DpAll K H vs (tab.map pairD) →
    ∃ (ps : List Addr) (kvs : List (Key × V)), vs = ps.map V.ref ∧ Paired (fun p kv => SqT K H p [kV kv.1, kv.2]) ps kvs ∧ Tab K H kvs tab
  | [], _, .nil => ⟨[], [], rfl, .nil, .nil⟩
  | (t, d) :: tab, _, .cons h r => by
    obtain ⟨ps, kvs, rfl, h1, h2⟩ := pairs_tab r
    obtain ⟨a, xs, rfl, h3, h4⟩ := dp_tup h
    obtain ⟨x, y, rfl, h5, h6⟩ := dp2 h4
    cases h5
    exact ⟨a :: ps, (Sum.inr t, y) :: kvs, rfl, .cons h3 h1, .cons ⟨rfl, h6⟩ h2⟩
theorem tab_keys : ∀ {kvs : List (Key × V)} {tab : List (Str × PyData)}, Tab K H kvs tab → kvs.map (·.1) = (tab.map (·.1)).map Sum.inr
  | _, _, .nil => rfl
  | (k, v) :: _, (t, d) :: _, .cons h r => by
    have h1 : k = Sum.inr t := h.1
    rw [List.map_cons, List.map_cons, List.map_cons, tab_keys r, h1]
theorem val_none : ∀ {kvs : List (Key × V)} {k : Key}, k ∉ kvs.map Prod.fst → valV kvs k = none
  | [], _, _ => valV_nil
  | (k', v) :: kvs, k, h => by
    rw [valV_neg (fun z => h (by rw [← z]; exact List.mem_cons_self ..))]
    exact val_none fun z => h (List.mem_cons_of_mem _ z)
theorem merge_nd : ∀ {more acc : List (Key × V)}, ((acc ++ more).map (·.1)).Nodup → mergeK acc more = acc ++ more
  | [], acc, _ => by
    rw [List.append_nil]
    rfl
  | (k, v) :: more, acc, h => by
    have hk : k ∉ acc.map (·.1) := fun z => by
      rw [List.map_append, List.map_cons] at h
      exact (List.nodup_append.mp h).2.2 _ z _ (List.mem_cons_self ..) rfl
    show mergeK (putK acc k v) more = _
    rw [putK_new v (val_none hk)]
    have e : acc ++ (k, v) :: more = (acc ++ [(k, v)]) ++ more := by
      rw [List.append_assoc]
      rfl
    rw [e] at h ⊢
    exact merge_nd h
theorem mk_dict {v : V} {tab : List (Str × PyData)} (hd : Dp K H v (.list (tab.map pairD))) (nd : (tab.map Prod.fst).Nodup) {H1 : Hp} (e : Ex H H1) :
    ∃ (a : Addr) (ps : List Addr) (kvs : List (Key × V)), [v] = [V.ref a] ∧ SqL K H1 a (ps.map V.ref) ∧ Paired (fun p kv => SqT K H1 p [kV kv.1, kv.2]) ps kvs ∧ mergeK [] kvs = kvs ∧ Tab K H kvs tab := by
  obtain ⟨a, xs, rfl, h1, h2⟩ := dp_lst hd
  obtain ⟨ps, kvs, rfl, h3, h4⟩ := pairs_tab h2
  refine ⟨a, ps, kvs, rfl, ex_l e h1, ?_, ?_, h4⟩
  · clear h1 h2 hd h4
    induction h3 with
    | nil => exact .nil
    | cons h t ih => exact .cons (sqT_same e h) ih
  · have n : (([] ++ kvs).map Prod.fst).Nodup := by
      rw [List.nil_append, tab_keys h4]
      exact List.Pairwise.map _ (fun a b n z => n (Sum.inr.inj z)) nd
    rw [merge_nd n, List.nil_append]
theorem et_yes : EvT tYes σ H true := fun H1 e Q q => q H1 (Ex.refl _)
/-- [.. for .. in d.items() if ..], d locked -/
theorem lc_items {i : Nat} {q0 : Addr} {kvs : List (Key × V)} {od : Obj} {Hx H0 : Hp} {tt : TT} {Q : VK} (hi : σ[i]? = some (some (.ref q0))) (hq : Hx q0 = some (.frz od (.dK kvs))) (e : Ex Hx H0) (b : Nat → Bool) (f : Nat → PyData) (hn : kvs.length ≤ 100000)
    (hs : ∀ j k v T H', kvs[j]? = some (k, v) → Ex Hx H' → H' T = none → ∀ Qg : L2.St → Hp → Prop,
      (∀ σ2 H2, wipe σ2 vs = wipe σ vs → Ex H' H2 → EvT tt σ2 Hx (b j) → (b j = true → EvD K te σ2 Hx (f j)) → Qg σ2 H2) → g (.ref T) (wipe σ vs) (upd H' T (.tup [kV k, v])) Qg)
    (q : ∀ v H2, Ex H0 H2 → Dp K (hid Hx H0 H2) v (.list (((List.range kvs.length).filter b).map f)) → Q v H2) : tLc (iItems (tVar i)) g tt te vs σ H0 Q := by
  refine ⟨_, hi, q0, od, kvs, rfl, e _ _ hq, fun D hD => ?_⟩
  refine lcF (K := K) (H := Hx) (Q := Q) (walk_items (d := q0) (o := od) (kvs := kvs)) b f hn e (fun H' e' => e' _ _ hq) ?_ hD q
  rintro j x H' H'' hj e' ⟨T, x1, x2, rfl, hT, rfl, h1, h2⟩ Qg k
  have hj2 : kvs[j]? = some kvs[j] := List.getElem?_eq_getElem hj
  have h1 : kvs[j]?.map (fun kv => kV kv.1) = some x1 := h1
  have h2 : kvs[j]?.map Prod.snd = some x2 := h2
  rw [hj2] at h1 h2
  cases h1
  cases h2
  exact hs j _ _ T H' hj2 e' hT Qg k
/-- the dict made of them, the lock taken off -/
theorem un_dict {Hv H H2 : Hp} {q0 : Addr} {kvs : List (Key × V)} {od : Obj} {v : V} {tab : List (Str × PyData)} (hq : Hv q0 = some (.dK kvs)) (e : Ex Hv H) (nd : (tab.map Prod.fst).Nodup)
    (e2 : Ex (upd H q0 (.frz od (.dK kvs))) H2) (hd : Dp K (hid (upd Hv q0 (.frz od (.dK kvs))) (upd H q0 (.frz od (.dK kvs))) H2) v (.list (tab.map pairD))) :
    ∃ (a : Addr) (ps : List Addr) (kvs' : List (Key × V)), [v] = [V.ref a] ∧ SqL K H2 a (ps.map V.ref) ∧ Paired (fun p kv => SqT K H2 p [kV kv.1, kv.2]) ps kvs' ∧
      ∀ p, H2 p = none → upd H2 p (.dK (mergeK [] kvs')) q0 = some (.frz od (.dK kvs)) ∧ H p = none ∧ Ex H (upd (upd H2 p (.dK (mergeK [] kvs'))) q0 (.dK kvs)) ∧
        upd (upd H2 p (.dK (mergeK [] kvs'))) q0 (.dK kvs) p = some (.dK kvs') ∧ Tab K (hid Hv H (upd (upd H2 p (.dK (mergeK [] kvs'))) q0 (.dK kvs))) kvs' tab := by
  obtain ⟨a, ps, kvs', h1, h2, h3, h4, h5⟩ := mk_dict hd nd hid_ex
  refine ⟨a, ps, kvs', h1, h2, h3, fun p hp => ?_⟩
  rw [h4]
  have q2 : H2 q0 = some (.frz od (.dK kvs)) := e2 _ _ upd_same
  have npq : p ≠ q0 := fun z => by
    rw [z, q2] at hp
    cases hp
  have hpH : H p = none := (upd_ne npq).symm.trans (ex_none e2 hp)
  refine ⟨(upd_ne npq.symm).trans q2, hpH, fun b o hb => ?_, (upd_ne npq).trans upd_same, ?_⟩
  · by_cases z : b = q0
    · rw [z, e _ _ hq] at hb
      rw [z, upd_same]
      exact hb
    · rw [upd_ne z, upd_ne (ne_of_none hb hpH)]
      exact e2 _ _ ((upd_ne z).trans hb)
  · have hs : hid (upd Hv q0 (.frz od (.dK kvs))) (upd H q0 (.frz od (.dK kvs))) H2 q0 = some (.frz od (.dK kvs)) :=
      (hid_see (fun z => by rw [upd_same] at z; cases z)).trans q2
    refine tab_same (fun b o hb => ?_) (tab_sans (NoSq.frz hs) h5)
    have nb : b ≠ q0 := fun z => by
      rw [z, sans_none] at hb
      cases hb
    rw [sans_at nb] at hb
    obtain ⟨g1, g2⟩ := hid_some hb
    refine (hid_see (fun z => ?_)).trans ?_
    · exact (upd_ne nb).symm.trans (g2 ((upd_ne nb).trans z))
    · rw [upd_ne nb, upd_ne (ne_of_none g1 hp)]
      exact g1
/-! ### + of tuples, d[k] -/
theorem ed_catT {ds es : List PyData} (ha : EvD K ta σ H (.tuple ds)) (hb : EvD K tb σ H (.tuple es)) (n1 : ds ≠ []) (n2 : es ≠ []) (hl : ds.length + es.length ≤ 100000) : EvD K (tOp (rCatT K) ta tb) σ H (.tuple (ds ++ es)) :=
  ed_op ha hb fun x y H' e hx hy => by
    obtain ⟨a, xs, rfl, h1, h2⟩ := dp_tup hx
    obtain ⟨b, ys, rfl, h3, h4⟩ := dp_tup hy
    intro H1 e1 Q q
    have l1 := dpAll_len h2
    have l2 := dpAll_len h4
    refine ⟨a, b, xs, ys, rfl, rfl, sqT_same e1 h1, sqT_same e1 h3, fun z => n1 ?_, sz_of (by omega), fun z => absurd ?_ n2, fun _ p hp => ?_⟩
    · rw [z] at l1
      exact List.length_eq_zero_iff.mp l1.symm
    · rw [z] at l2
      exact List.length_eq_zero_iff.mp l2.symm
    · refine q _ _ (Ex.new hp) (.tup (.inl (.inl ((hid_new hp).trans upd_same))) ?_)
      exact dpAll_same (hid_base e1 (Ex.new hp)) (dpAll_app h2 h4)
theorem ed_dgetI {i : Nat} {p : Addr} {kvs : List (Key × V)} {tab : List (Str × PyData)} {t : Str} (hi : σ[i]? = some (some (.ref p))) (hp : H p = some (.dK kvs)) (ht : Tab K H kvs tab)
    (hy : EvD K ty σ H (.str t)) (h : tab.lookup t = some d) : EvD K (tDGet (tVar i) ty) σ H d := fun H1 e Q q => by
  refine ⟨_, hi, ?_⟩
  refine hy H1 e _ fun y H2 e2 hy => ?_
  cases hy
  rcases tab_val (t := t) ht with ⟨h1, h2⟩ | ⟨v, d', h1, h2, h3⟩
  · rw [h] at h1
    cases h1
  · rw [h] at h1
    cases h1
    refine ⟨p, v, rfl, .inl ⟨kvs, Sum.inr t, .inl (e2 _ _ (e _ _ hp)), rfl, h2.symm⟩, q v H2 e2 (dp_same (hid_base e e2) h3)⟩
end
end VG

set_option maxHeartbeats 4000000
namespace K10
open PySem PySem.Spec PyProof.Rows L2 Evl VG
def top (i : Nat) : Stmt := PySem.Challenge.pw_enoughhands_k10_whole_levels_and_least_s.main.body.getD i (.Pass ⟨0, 0, 0, 0⟩)
variable {P : Program} {w : World} {K : PySem.W.Frag} {mg : Str → Option Value} {base : Heap} {f : Addr} {fd : FuncData}

/-! ### is_integer -/
abbrev s_is_integer : Stmt := top 1
theorem sc_is_integer : FnScope ["value"] ["value"] (defScope s_is_integer) := ⟨rfl, rfl, rfl, by decide +kernel, rfl, by decide +kernel, by decide +kernel⟩
def okInteger : List PyData → PyData → Prop := fun ds d => ∃ i, ds = [.int i] ∧ d = .bool true
theorem ok_is_integer (F : Fun K "is_integer" "is_integer" s_is_integer f fd) (B : Bltn mg) :
    FnG P w K mg base CX0 1 f fd ["value"] (spOf K 1 okInteger) := by
  refine okG F sc_is_integer (fun vs H Q E h => ?_) (fun cdv A outer s H vs Q E hcm hr h => ?_)
  · obtain ⟨_, _, _, h, _⟩ := h
    exact h
  · obtain ⟨Hv, ds, d, hl, e, hds, ⟨i, rfl, rfl⟩, q⟩ := h
    obtain ⟨v, rfl, h1⟩ := dp1 hds
    cases h1
    refine ⟨_, (pss_one (ps_ret (pe_and (pe_callB (call_isBK K) (by rfl) B.isinstance bt_isinstance (pa_cons (pv 0) (pa_cons (pe_bltn (v := .ty "int") (by rfl) B.int bt_int rfl) pa_nil))) (pe_one (pe_not (pe_callB (call_isBK K) (by rfl) B.isinstance bt_isinstance (pa_cons (pv 0) (pa_cons (pe_bltn (v := .ty "bool") (by rfl) B.bool bt_bool rfl) pa_nil)))))))), ?_⟩
    refine Runs.go (d := .bool true) ?_ e q
    refine ru_ret ?_
    exact ed_and (b := true) (c := true) (ed_isB (ed_var rfl (.int i)) kb_ii) fun _ => ed_not (b := false) (ed_isB (ed_var rfl (.int i)) kb_ib)

/-! ### is_name -/
abbrev s_is_name : Stmt := top 2
theorem sc_is_name : FnScope ["value", "sign"] ["value"] (defScope s_is_name) := ⟨rfl, rfl, rfl, by decide +kernel, rfl, by decide +kernel, by decide +kernel⟩
def nameOk (z : Str) : Prop := 1 ≤ z.length ∧ z.length ≤ 8 ∧ ∀ (i : Nat) (c : Nat), z.cps[i]? = some c → 97 ≤ c ∧ c ≤ 122
def okName : List PyData → PyData → Prop := fun ds d => ∃ z, ds = [.str z] ∧ nameOk z ∧ d = .bool true
theorem ok_is_name (F : Fun K "is_name" "is_name" s_is_name f fd) (B : Bltn mg) :
    FnG P w K mg base CX0 1 f fd ["value"] (spOf K 1 okName) := by
  refine okG F sc_is_name (fun vs H Q E h => ?_) (fun cdv A outer s H vs Q E hcm hr h => ?_)
  · obtain ⟨_, _, _, h, _⟩ := h
    exact h
  · obtain ⟨Hv, ds, d, hl, e, hds, ⟨z, rfl, ⟨hz1, hz2, hz3⟩, rfl⟩, q⟩ := h
    obtain ⟨v, rfl, h1⟩ := dp1 hds
    cases h1
    refine ⟨_, (pss_cons (ps_if (pt_not (pt_val (pe_callB (call_isBK K) (by rfl) B.isinstance bt_isinstance (pa_cons (pv 0) (pa_cons (pe_bltn (v := .ty "str") (by rfl) B.str bt_str rfl) pa_nil))))) (pss_one (ps_ret pe_bl)) pss_nil)
      (pss_one (ps_ret (pe_and (pe_chain op_le op_le pe_int (pe_callB call_len_str (by rfl) B.len bt_len (pa_cons (pv 0) pa_nil)) pe_int) (pe_one (pe_callB (cr_allK K rfl) (by rfl) B.all bt_all (pa_cons (pe_lc (own := [(("sign" : Str), 1)])  rfl sc_is_name.nd (pi_str (pv 0)) (blkOk_by (N := ["value", "sign"]) (sc := defScope s_is_name) (by decide +kernel)) (fun _ _ _ _ _ => (pg_name (i := 1) sc_is_name.nd rfl (Or.inl rfl))) (fun _ _ _ _ _ => pts_nil) (fun _ _ _ _ _ => (pe_chain op_le_str op_le_str pe_str (pv 1) pe_str))) pa_nil))))))), ?_⟩
    refine Runs.go (d := .bool true) ?_ e q
    refine ru_when (b := false) (et_not (a := true) (etB_bool (ed_isB (ed_var rfl (.str z)) kb_ss))) (fun h => by cases h) fun _ => ?_
    refine ru_ret ?_
    refine ed_and (b := true) (c := true) ?_ fun _ => ?_
    · refine ed_isb ?_ (ed_chainI (g := fun i j => decide (i ≤ j)) (g' := fun i j => decide (i ≤ j)) ed_int (ed_lenS (ed_var rfl (.str z)) (by show z.length ≤ 16777216; omega)) fun _ => ed_int)
      have a1 : (1 : Int) ≤ (z.length : Int) := by omega
      have a2 : (z.length : Int) ≤ 8 := by omega
      rw [decide_eq_true a1, decide_eq_true a2]
      rfl
    · refine ed_isb ?_ (ed_all (bs := (List.range z.cps.size).map fun _ => true) ?_)
      · rw [List.all_map]
        exact List.all_eq_true.mpr fun _ _ => rfl
      · rw [List.map_map]
        refine ed_lcS _ (ed_var rfl (.str z)) (by have : z.cps.size = z.length := rfl; omega) ?_
        intro i c hc H' H'' e1 e2 Qg k
        refine g_name rfl ?_ k
        obtain ⟨c1, c2⟩ := hz3 i c hc
        refine ed_leS rfl c1 c2
end K10

set_option maxHeartbeats 4000000
namespace K10
open PySem PySem.Spec PyProof.Rows L2 Evl VG
variable {P : Program} {w : World} {K : PySem.W.Frag} {mg : Str → Option Value} {base : Heap} {f : Addr} {fd : FuncData}

/-! ### is_row_of -/
abbrev s_is_row_of : Stmt := top 3
theorem sc_is_row_of : FnScope ["value", "size"] ["value", "size"] (defScope s_is_row_of) := ⟨rfl, rfl, rfl, by decide +kernel, rfl, by decide +kernel, by decide +kernel⟩
def okRowOf : List PyData → PyData → Prop := fun ds d => ∃ es, ds = [.tuple es, .int (es.length : Int)] ∧ d = .bool true
theorem ok_is_row_of (F : Fun K "is_row_of" "is_row_of" s_is_row_of f fd) (B : Bltn mg) :
    FnG P w K mg base CX0 1 f fd ["value", "size"] (spOf K 2 okRowOf) := by
  refine okG F sc_is_row_of (fun vs H Q E h => ?_) (fun cdv A outer s H vs Q E hcm hr h => ?_)
  · obtain ⟨_, _, _, h, _⟩ := h
    exact h
  · obtain ⟨Hv, ds, d, hl, e, hds, ⟨es, rfl, rfl⟩, q⟩ := h
    obtain ⟨v, u, rfl, h1, h2⟩ := dp2 hds
    refine ⟨_, (pss_one (ps_ret (pe_and (pe_callB (call_isBK K) (by rfl) B.isinstance bt_isinstance (pa_cons (pv 0) (pa_cons (pe_bltn (v := .ty "tuple") (by rfl) B.tuple bt_tuple rfl) pa_nil))) (pe_one (pe_cmpR op_eq (pe_callB (call_lenK K) (by rfl) B.len bt_len (pa_cons (pv 0) pa_nil)) (pv 1) (nomark _)))))), ?_⟩
    refine Runs.go (d := .bool true) ?_ e q
    refine ru_ret ?_
    refine ed_and (b := true) (c := true) (ed_isB (ed_var rfl h1) kb_tt) fun _ => ?_
    exact ed_isb (decide_eq_true rfl) (ed_eqI (ed_len (ed_var rfl h1)) (ed_var rfl h2))

/-! ### ascends -/
abbrev s_ascends : Stmt := top 4
theorem sc_ascends : FnScope ["rows", "at"] ["rows"] (defScope s_ascends) := ⟨rfl, rfl, rfl, by decide +kernel, rfl, by decide +kernel, by decide +kernel⟩
def okAsc : List PyData → PyData → Prop := fun ds d => ∃ ts : List Str, ds = [.list (ts.map .str)] ∧ ts.length ≤ 1000 ∧ ascS ts ∧ d = .bool true
theorem ok_ascends (F : Fun K "ascends" "ascends" s_ascends f fd) (B : Bltn mg) :
    FnG P w K mg base CX0 1 f fd ["rows"] (spOf K 1 okAsc) := by
  refine okG F sc_ascends (fun vs H Q E h => ?_) (fun cdv A outer s H vs Q E hcm hr h => ?_)
  · obtain ⟨_, _, _, h, _⟩ := h
    exact h
  · obtain ⟨Hv, ds, d, hl, e, hds, ⟨ts, rfl, hts, ha, rfl⟩, q⟩ := h
    obtain ⟨v, rfl, h1⟩ := dp1 hds
    refine ⟨_, (pss_one (ps_ret (pe_callB (cr_allK K rfl) (by rfl) B.all bt_all (pa_cons (pe_lc (own := [(("at" : Str), 1)])  rfl sc_ascends.nd (pi_range1 (by rfl) B.range (pa_cons (pe_op op_sub (pe_callB (call_lenK K) (by rfl) B.len bt_len (pa_cons (pv 0) pa_nil)) pe_int) pa_nil)) (blkOk_by (N := ["rows", "at"]) (sc := defScope s_ascends) (by decide +kernel)) (fun _ _ _ _ _ => (pg_name (i := 1) sc_ascends.nd rfl (Or.inl rfl))) (fun _ _ _ _ _ => pts_nil) (fun _ _ _ _ _ => (pe_cmpR op_lt_str (pe_ix (ix_listK K) (pv 0) (pv 1) (fun _ _ => rfl)) (pe_ix (ix_listK K) (pv 0) (pe_op op_add (pv 1) pe_int) (fun _ _ => rfl)) (nomark _)))) pa_nil)))), ?_⟩
    refine Runs.go (d := .bool true) ?_ e q
    refine ru_ret ?_
    refine ed_isb ?_ (ed_all (bs := (List.range ((ts.length : Int) - 1).toNat).map fun _ => true) ?_)
    · rw [List.all_map]
      exact List.all_eq_true.mpr fun _ _ => rfl
    · rw [List.map_map]
      have hv : EvD K (tVar 0) [some v, none] Hv (.list (ts.map .str)) := ed_var rfl h1
      refine ed_lcR _ (eda_cons (ed_I0 (g := fun i j => i - j) (ed_is (by rw [List.length_map]) (ed_lenL hv)) ed_int) eda_nil) (by omega) ?_
      intro i hi H' H'' e1 e2 Qg k
      refine g_name rfl ?_ k
      have i1 : i < ts.length := by omega
      have i2 : i + 1 < ts.length := by omega
      have g1 : ts[i]? = some ts[i] := List.getElem?_eq_getElem i1
      have g2 : ts[i + 1]? = some ts[i + 1] := List.getElem?_eq_getElem i2
      have h1' := dp_same e1 h1
      refine ed_isb ?_ (ed_ltS (x := ts[i]) (y := ts[i + 1]) (ed_ixLz (k := i) (ed_var rfl h1') (ed_var rfl (.int _)) (by omega) (by rw [List.getElem?_map, g1]; rfl))
        (ed_ixLz (k := i + 1) (ed_var rfl h1') (ed_I0 (g := fun i j => i + j) (ed_var rfl (.int _)) ed_int) (by omega) (by rw [List.getElem?_map, g2]; rfl)))
      exact decide_eq_true (ha i _ _ g1 g2)

/-! ### are_names -/
abbrev s_are_names : Stmt := top 5
theorem sc_are_names : FnScope ["value", "one"] ["value"] (defScope s_are_names) := ⟨rfl, rfl, rfl, by decide +kernel, rfl, by decide +kernel, by decide +kernel⟩
def okNames : List PyData → PyData → Prop := fun ds d => ∃ ts : List Str, ds = [.tuple (ts.map .str)] ∧ ts.length ≤ 1000 ∧ (∀ t ∈ ts, nameOk t) ∧ d = .bool true
theorem ok_are_names (F : Fun K "are_names" "are_names" s_are_names f fd) (B : Bltn mg) (D_is_name : Def P w K mg base 1 "is_name" ["value"] (spOf K 1 okName)) :
    FnG P w K mg base CX0 2 f fd ["value"] (spOf K 1 okNames) := by
  refine okG F sc_are_names (fun vs H Q E h => ?_) (fun cdv A outer s H vs Q E hcm hr h => ?_)
  · obtain ⟨_, _, _, h, _⟩ := h
    exact h
  · obtain ⟨Hv, ds, d, hl, e, hds, ⟨ts, rfl, hts, hn, rfl⟩, q⟩ := h
    obtain ⟨v, rfl, h1⟩ := dp1 hds
    refine ⟨_, (pss_one (ps_ret (pe_and (pe_callB (call_isBK K) (by rfl) B.isinstance bt_isinstance (pa_cons (pv 0) (pa_cons (pe_bltn (v := .ty "tuple") (by rfl) B.tuple bt_tuple rfl) pa_nil))) (pe_one (pe_callB (cr_allK K rfl) (by rfl) B.all bt_all (pa_cons (pe_lc (own := [(("one" : Str), 1)])  rfl sc_are_names.nd (pi_tup (pv 0)) (blkOk_by (N := ["value", "one"]) (sc := defScope s_are_names) (by decide +kernel)) (fun _ _ _ _ _ => (pg_name (i := 1) sc_are_names.nd rfl (Or.inl rfl))) (fun _ _ _ _ _ => pts_nil) (fun _ _ _ _ _ => (pe_d D_is_name hcm hr (by decide) (by rfl) (pa_cons (pv 1) pa_nil)))) pa_nil)))))), ?_⟩
    refine Runs.go (d := .bool true) ?_ e q
    refine ru_ret ?_
    refine ed_and (b := true) (c := true) (ed_isB (ed_var rfl h1) kb_tt) fun _ => ?_
    refine ed_isb ?_ (ed_all (bs := (List.range (ts.map PyData.str).length).map fun _ => true) ?_)
    · rw [List.all_map]
      exact List.all_eq_true.mpr fun _ _ => rfl
    · rw [List.map_map]
      refine ed_lcT _ (ed_var rfl h1) (by rw [List.length_map]; omega) ?_
      intro i x dx H' hdx e1 hx H'' e2 Qg k
      rw [List.getElem?_map] at hdx
      obtain ⟨t, ht, rfl⟩ := Option.map_eq_some_iff.mp hdx
      refine g_name rfl ?_ k
      exact ed_call (eda_cons (ed_var rfl hx) eda_nil) (spD_of ⟨t, rfl, hn t (List.mem_of_getElem? ht), rfl⟩)

/-! ### is_line -/
abbrev s_is_line : Stmt := top 15
theorem sc_is_line : FnScope ["value"] ["value"] (defScope s_is_line) := ⟨rfl, rfl, rfl, by decide +kernel, rfl, by decide +kernel, by decide +kernel⟩
abbrev Line := Str × Int × Int
def lineD (l : Line) : PyData := .tuple [.str l.1, .int l.2.1, .int l.2.2]
def lineOk (l : Line) : Prop := nameOk l.1 ∧ 0 ≤ l.2.1 ∧ l.2.1 ≤ 9999 ∧ 0 ≤ l.2.1 + l.2.2 ∧ l.2.1 + l.2.2 ≤ 9999
def okLine : List PyData → PyData → Prop := fun ds d => ∃ l, ds = [lineD l] ∧ lineOk l ∧ d = .bool true
theorem ok_is_line (F : Fun K "is_line" "is_line" s_is_line f fd) (B : Bltn mg) {t0 : Tok} (C_MOST_NEED : mg "MOST_NEED" = some (.int 9999 t0))
    (D_is_row_of : Def P w K mg base 1 "is_row_of" ["value", "size"] (spOf K 2 okRowOf)) (D_is_name : Def P w K mg base 1 "is_name" ["value"] (spOf K 1 okName))
    (D_is_integer : Def P w K mg base 1 "is_integer" ["value"] (spOf K 1 okInteger)) :
    FnG P w K mg base CX0 2 f fd ["value"] (spOf K 1 okLine) := by
  refine okG F sc_is_line (fun vs H Q E h => ?_) (fun cdv A outer s H vs Q E hcm hr h => ?_)
  · obtain ⟨_, _, _, h, _⟩ := h
    exact h
  · obtain ⟨Hv, ds, d, hl, e, hds, ⟨⟨t, n, g⟩, rfl, ⟨p1, p2, p3, p4, p5⟩, rfl⟩, q⟩ := h
    obtain ⟨v, rfl, h1⟩ := dp1 hds
    refine ⟨_, (pss_cons (ps_if (PW.pt (pw_or (pt_not (pt_val (pe_d D_is_row_of hcm hr (by decide) (by rfl) (pa_cons (pv 0) (pa_cons pe_int pa_nil))))) (pw_or1 (pt_not (pt_val (pe_d D_is_name hcm hr (by decide) (by rfl) (pa_cons (pe_ix (ix_tupK K) (pv 0) pe_int (fun _ _ => rfl)) pa_nil))))))) (pss_one (ps_ret pe_bl)) pss_nil)
      (pss_cons (ps_if (PW.pt (pw_or (pt_not (pt_val (pe_d D_is_integer hcm hr (by decide) (by rfl) (pa_cons (pe_ix (ix_tupK K) (pv 0) pe_int (fun _ _ => rfl)) pa_nil)))) (pw_or1 (pt_not (pt_val (pe_d D_is_integer hcm hr (by decide) (by rfl) (pa_cons (pe_ix (ix_tupK K) (pv 0) pe_int (fun _ _ => rfl)) pa_nil))))))) (pss_one (ps_ret pe_bl)) pss_nil)
      (pss_one (ps_ret (pe_and (pe_chain op_le op_le pe_int (pe_ix (ix_tupK K) (pv 0) pe_int (fun _ _ => rfl)) (pe_glob (v := .int 9999) (by rfl) C_MOST_NEED ⟨_, rfl⟩)) (pe_one (pe_chain op_le op_le pe_int (pe_op op_add (pe_ix (ix_tupK K) (pv 0) pe_int (fun _ _ => rfl)) (pe_ix (ix_tupK K) (pv 0) pe_int (fun _ _ => rfl))) (pe_glob (v := .int 9999) (by rfl) C_MOST_NEED ⟨_, rfl⟩)))))))), ?_⟩
    refine Runs.go (d := .bool true) ?_ e q
    have hv : EvD K (tVar 0) [some v] Hv (.tuple [.str t, .int n, .int g]) := ed_var rfl h1
    have v0 : EvD K (tOp (rIxT K) (tVar 0) (tC (.int 0))) [some v] Hv (.str t) := ed_ixT (k := 0) hv ed_int rfl
    have v1 : EvD K (tOp (rIxT K) (tVar 0) (tC (.int 1))) [some v] Hv (.int n) := ed_ixT (k := 1) hv ed_int rfl
    have v2 : EvD K (tOp (rIxT K) (tVar 0) (tC (.int 2))) [some v] Hv (.int g) := ed_ixT (k := 2) hv ed_int rfl
    refine ru_when (b := false) (et_or (a := false) (b := false) (et_not (a := true) (etB_bool (ed_call (eda_cons hv (eda_cons ed_int eda_nil)) (spD_of ⟨_, rfl, rfl⟩))))
      fun _ => et_not (a := true) (etB_bool (ed_call (eda_cons v0 eda_nil) (spD_of ⟨t, rfl, p1, rfl⟩)))) (fun h => by cases h) fun _ => ?_
    refine ru_when (b := false) (et_or (a := false) (b := false) (et_not (a := true) (etB_bool (ed_call (eda_cons v1 eda_nil) (spD_of ⟨n, rfl, rfl⟩))))
      fun _ => et_not (a := true) (etB_bool (ed_call (eda_cons v2 eda_nil) (spD_of ⟨g, rfl, rfl⟩)))) (fun h => by cases h) fun _ => ?_
    refine ru_ret ?_
    refine ed_and (b := true) (c := true) ?_ fun _ => ?_
    · refine ed_isb ?_ (ed_chainI (g := fun i j => decide (i ≤ j)) (g' := fun i j => decide (i ≤ j)) ed_int v1 fun _ => ed_int)
      rw [decide_eq_true p2, decide_eq_true p3]
      rfl
    · refine ed_isb ?_ (ed_chainI (g := fun i j => decide (i ≤ j)) (g' := fun i j => decide (i ≤ j)) ed_int (ed_I0 (g := fun i j => i + j) v1 v2) fun _ => ed_int)
      rw [decide_eq_true p4, decide_eq_true p5]
      rfl

/-! ### is_trade -/
abbrev s_is_trade : Stmt := top 16
theorem sc_is_trade : FnScope ["value", "line"] ["value"] (defScope s_is_trade) := ⟨rfl, rfl, rfl, by decide +kernel, rfl, by decide +kernel, by decide +kernel⟩
abbrev Tr := List Line
def tradeD (tr : Tr) : PyData := .tuple (tr.map lineD)
def tradeOk (tr : Tr) : Prop := tr.length ≤ 16 ∧ (∀ l ∈ tr, lineOk l) ∧ ascS (tr.map (·.1))
def okTrade : List PyData → PyData → Prop := fun ds d => ∃ tr, ds = [tradeD tr] ∧ tradeOk tr ∧ d = .bool true
theorem ok_is_trade (F : Fun K "is_trade" "is_trade" s_is_trade f fd) (B : Bltn mg) {t0 : Tok} (C_MOST_LINES : mg "MOST_LINES" = some (.int 16 t0))
    (D_is_line : Def P w K mg base 2 "is_line" ["value"] (spOf K 1 okLine)) (D_ascends : Def P w K mg base 1 "ascends" ["rows"] (spOf K 1 okAsc)) :
    FnG P w K mg base CX0 3 f fd ["value"] (spOf K 1 okTrade) := by
  refine okG F sc_is_trade (fun vs H Q E h => ?_) (fun cdv A outer s H vs Q E hcm hr h => ?_)
  · obtain ⟨_, _, _, h, _⟩ := h
    exact h
  · obtain ⟨Hv, ds, d, hl, e, hds, ⟨tr, rfl, ⟨hle, hok, hasc⟩, rfl⟩, q⟩ := h
    obtain ⟨v, rfl, h1⟩ := dp1 hds
    refine ⟨_, (pss_cons (ps_if (PW.pt (pw_or (pt_not (pt_val (pe_callB (call_isBK K) (by rfl) B.isinstance bt_isinstance (pa_cons (pv 0) (pa_cons (pe_bltn (v := .ty "tuple") (by rfl) B.tuple bt_tuple rfl) pa_nil))))) (pw_or1 (pt_cmpR op_gt (pe_callB (call_lenK K) (by rfl) B.len bt_len (pa_cons (pv 0) pa_nil)) (pe_glob (v := .int 16) (by rfl) C_MOST_LINES ⟨_, rfl⟩) (nomark _))))) (pss_one (ps_ret pe_bl)) pss_nil)
      (pss_one (ps_ret (pe_and (pe_callB (cr_allK K rfl) (by rfl) B.all bt_all (pa_cons (pe_lc (own := [(("line" : Str), 1)])  rfl sc_is_trade.nd (pi_tup (pv 0)) (blkOk_by (N := ["value", "line"]) (sc := defScope s_is_trade) (by decide +kernel)) (fun _ _ _ _ _ => (pg_name (i := 1) sc_is_trade.nd rfl (Or.inl rfl))) (fun _ _ _ _ _ => pts_nil) (fun _ _ _ _ _ => (pe_d D_is_line hcm hr (by decide) (by rfl) (pa_cons (pv 1) pa_nil)))) pa_nil)) (pe_one (pe_d D_ascends hcm hr (by decide) (by rfl) (pa_cons (pe_lc (own := [(("line" : Str), 1)])  rfl sc_is_trade.nd (pi_tup (pv 0)) (blkOk_by (N := ["value", "line"]) (sc := defScope s_is_trade) (by decide +kernel)) (fun _ _ _ _ _ => (pg_name (i := 1) sc_is_trade.nd rfl (Or.inl rfl))) (fun _ _ _ _ _ => pts_nil) (fun _ _ _ _ _ => (pe_ix (ix_tupK K) (pv 1) pe_int (fun _ _ => rfl)))) pa_nil))))))), ?_⟩
    refine Runs.go (d := .bool true) ?_ e q
    have hv : EvD K (tVar 0) [some v, none] Hv (.tuple (tr.map lineD)) := ed_var rfl h1
    have hlen : (tr.map lineD).length = tr.length := List.length_map _
    refine ru_when (b := false) (et_or (a := false) (b := false) (et_not (a := true) (etB_bool (ed_isB hv kb_tt))) fun _ => et_is (etI_gt (ed_len hv) ed_int) ?_) (fun h => by cases h) fun _ => ?_
    · refine decide_eq_false ?_
      omega
    refine ru_ret ?_
    refine ed_and (b := true) (c := true) ?_ fun _ => ?_
    · refine ed_isb ?_ (ed_all (bs := (List.range (tr.map lineD).length).map fun _ => true) ?_)
      · rw [List.all_map]
        exact List.all_eq_true.mpr fun _ _ => rfl
      · rw [List.map_map]
        refine ed_lcT _ hv (by omega) ?_
        intro i x dx H' hdx e1 hx H'' e2 Qg k
        rw [List.getElem?_map] at hdx
        obtain ⟨l, hl, rfl⟩ := Option.map_eq_some_iff.mp hdx
        refine g_name rfl ?_ k
        exact ed_call (eda_cons (ed_var rfl hx) eda_nil) (spD_of ⟨l, rfl, hok l (List.mem_of_getElem? hl), rfl⟩)
    · refine ed_call (eda_cons (ed_lcT (fun i => .str ((tr.map (·.1)).getD i Str.empty)) hv (by omega) ?_) eda_nil) (spD_of ⟨tr.map (·.1), ?_, by rw [List.length_map]; omega, hasc, rfl⟩)
      · intro i x dx H' hdx e1 hx H'' e2 Qg k
        rw [List.getElem?_map] at hdx
        obtain ⟨l, hl, rfl⟩ := Option.map_eq_some_iff.mp hdx
        refine g_name rfl ?_ k
        have e3 : (tr.map (·.1)).getD i Str.empty = l.1 := by
          rw [List.getD_eq_getElem?_getD, List.getElem?_map, hl]
          rfl
        rw [e3]
        exact ed_ixT (k := 0) (ed_var rfl hx) ed_int rfl
      · have e4 := range_map_get (tr.map (·.1)) PyData.str Str.empty
        rw [List.length_map] at e4
        rw [hlen, e4]
end K10

set_option maxHeartbeats 4000000
namespace K10
open PySem PySem.Spec PyProof.Rows L2 Evl VG
variable {P : Program} {w : World} {K : PySem.W.Frag} {mg : Str → Option Value} {base : Heap} {f : Addr} {fd : FuncData}

/-! ### is_stock -/
abbrev s_is_stock : Stmt := top 17
theorem sc_is_stock : FnScope ["value"] ["value"] (defScope s_is_stock) := ⟨rfl, rfl, rfl, by decide +kernel, rfl, by decide +kernel, by decide +kernel⟩
def okStock : List PyData → PyData → Prop := fun ds d => ∃ i : Int, ds = [.int i] ∧ 0 ≤ i ∧ i ≤ 99999 ∧ d = .bool true
theorem ok_is_stock (F : Fun K "is_stock" "is_stock" s_is_stock f fd) (B : Bltn mg) {t0 : Tok} (C_MOST_STOCK : mg "MOST_STOCK" = some (.int 99999 t0))
    (D_is_integer : Def P w K mg base 1 "is_integer" ["value"] (spOf K 1 okInteger)) :
    FnG P w K mg base CX0 2 f fd ["value"] (spOf K 1 okStock) := by
  refine okG F sc_is_stock (fun vs H Q E h => ?_) (fun cdv A outer s H vs Q E hcm hr h => ?_)
  · obtain ⟨_, _, _, h, _⟩ := h
    exact h
  · obtain ⟨Hv, ds, d, hl, e, hds, ⟨i, rfl, p1, p2, rfl⟩, q⟩ := h
    obtain ⟨v, rfl, h1⟩ := dp1 hds
    refine ⟨_, (pss_one (ps_ret (pe_and (pe_d D_is_integer hcm hr (by decide) (by rfl) (pa_cons (pv 0) pa_nil)) (pe_one (pe_chain op_le op_le pe_int (pv 0) (pe_glob (v := .int 99999) (by rfl) C_MOST_STOCK ⟨_, rfl⟩)))))), ?_⟩
    refine Runs.go (d := .bool true) ?_ e q
    refine ru_ret ?_
    have hv : EvD K (tVar 0) [some v] Hv (.int i) := ed_var rfl h1
    refine ed_and (b := true) (c := true) (ed_call (eda_cons hv eda_nil) (spD_of ⟨i, rfl, rfl⟩)) fun _ => ?_
    refine ed_isb ?_ (ed_chainI (g := fun i j => decide (i ≤ j)) (g' := fun i j => decide (i ≤ j)) ed_int hv fun _ => ed_int)
    rw [decide_eq_true p1, decide_eq_true p2]
    rfl

/-! ### check_stock -/
abbrev s_check_stock : Stmt := top 19
theorem sc_check_stock : FnScope ["stock"] ["stock"] (defScope s_check_stock) := ⟨rfl, rfl, rfl, by decide +kernel, rfl, by decide +kernel, by decide +kernel⟩
def okCheck : List PyData → PyData → Prop := fun ds d => ∃ i : Int, ds = [.int i] ∧ 0 ≤ i ∧ i ≤ 99999 ∧ d = .none
theorem ok_check_stock (F : Fun K "check_stock" "check_stock" s_check_stock f fd)
    (D_is_stock : Def P w K mg base 2 "is_stock" ["value"] (spOf K 1 okStock)) :
    FnG P w K mg base CX0 3 f fd ["stock"] (spOf K 1 okCheck) := by
  refine okG F sc_check_stock (fun vs H Q E h => ?_) (fun cdv A outer s H vs Q E hcm hr h => ?_)
  · obtain ⟨_, _, _, h, _⟩ := h
    exact h
  · obtain ⟨Hv, ds, d, hl, e, hds, ⟨i, rfl, p1, p2, rfl⟩, q⟩ := h
    obtain ⟨v, rfl, h1⟩ := dp1 hds
    refine ⟨_, (pss_one (ps_if (pt_not (pt_val (pe_d D_is_stock hcm hr (by decide) (by rfl) (pa_cons (pv 0) pa_nil)))) (pss_one ps_never) pss_nil)), ?_⟩
    have hv : EvD K (tVar 0) [some v] Hv (.int i) := ed_var rfl h1
    have ht := et_not (a := true) (etB_bool (ed_call (E := E0) (eda_cons hv eda_nil) (spD_of (n := 1) (ok := okStock) ⟨i, rfl, p1, p2, rfl⟩)))
    exact ht H e _ fun H2 e2 => iteF (q _ H2 e2 .non)

/-! ### trade_table -/
abbrev s_trade_table : Stmt := top 18
theorem sc_trade_table : FnScope ["trade", "task", "need", "gain"] ["trade"] (defScope s_trade_table) := ⟨rfl, rfl, rfl, by decide +kernel, rfl, by decide +kernel, by decide +kernel⟩
def tabOf (tr : Tr) : List (Str × PyData) := tr.map fun l => (l.1, .tuple [.int l.2.1, .int l.2.2])
def spTable (K : PySem.W.Frag) : Sp := fun vs H Q _ => ∃ Hv v tr, vs = [v] ∧ Ex Hv H ∧ Dp K Hv v (tradeD tr) ∧ tradeOk tr ∧
  ∀ p kvs H2, Ex H H2 → H p = none → H2 p = some (.dK kvs) → Tab K (fun b => if b = p then none else hid Hv H H2 b) kvs (tabOf tr) → Q (.ref p) H2
theorem ok_trade_table (F : Fun K "trade_table" "trade_table" s_trade_table f fd) (D_is_trade : Def P w K mg base 3 "is_trade" ["value"] (spOf K 1 okTrade)) :
    FnG P w K mg base CX0 4 f fd ["trade"] (spTable K) := by
  refine okG F sc_trade_table (fun vs H Q E h => ?_) (fun cdv A outer s H vs Q E hcm hr h => ?_)
  · obtain ⟨_, _, _, rfl, _⟩ := h
    rfl
  · obtain ⟨Hv, v, tr, rfl, e, h1, hok, q⟩ := h
    refine ⟨_, (pss_cons (ps_if (pt_not (pt_val (pe_d D_is_trade hcm hr (by decide) (by rfl) (pa_cons (pv 0) pa_nil)))) (pss_one ps_never) pss_nil)
      (pss_one (ps_ret (pe_dc (own := [(("task" : Str), 1), (("need" : Str), 2), (("gain" : Str), 3)])  rfl sc_trade_table.nd (pi_tup (pv 0)) (blkOk_by (N := ["trade", "task", "need", "gain"]) (sc := defScope s_trade_table) (by decide +kernel)) (fun _ _ _ _ _ => (pg_tupK K (n := 3) rfl (pgs_cons (pg_name (i := 1) sc_trade_table.nd rfl (Or.inl rfl)) (pgs_cons (pg_name (i := 2) sc_trade_table.nd rfl (Or.inl rfl)) (pgs_cons (pg_name (i := 3) sc_trade_table.nd rfl (Or.inl rfl)) pgs_nil))))) (fun _ _ _ _ _ => pts_nil) (fun _ _ _ _ _ => (pv 1)) (fun _ _ _ _ _ => (pe_tup (pa_cons (pv 2) (pa_cons (pv 3) pa_nil)))))))), ?_⟩
    have hv : EvD K (tVar 0) [some v, none, none, none] Hv (tradeD tr) := ed_var rfl h1
    have ht := et_not (a := true) (etB_bool (ed_call (E := E0) (eda_cons hv eda_nil) (spD_of (n := 1) (ok := okTrade) ⟨tr, rfl, hok, rfl⟩)))
    refine q_not (K := K) ht e fun H2 e2 => ?_
    obtain ⟨a, xs, rfl, s1, s2⟩ := dp_tup h1
    have e02 : Ex Hv H2 := e.trans e2
    refine ⟨_, rfl, a, rfl, ⟨xs, sqT_same e02 s1⟩, fun D hD => ?_⟩
    have hlen : xs.length = tr.length := by
      rw [dpAll_len s2, List.length_map]
    refine dc_tup (K := K) (a := a) (xs := xs) (fun i H' => ∃ kvs, Ex H2 H' ∧ H' D = some (.dK kvs) ∧ Tab K (fun b => if b = D then none else hid Hv H H' b) kvs (tabOf (tr.take i)))
      ⟨[], Ex.new hD, upd_same, .nil⟩ (fun i H' _ ⟨_, e', _⟩ => sqT_same (e02.trans e') s1) ?_ ?_
    · rintro i x H' hx' ⟨kvs, e', k1, k2⟩
      obtain ⟨dx, hdx, hx2⟩ := dpAll_get s2 hx'
      rw [List.getElem?_map] at hdx
      obtain ⟨⟨t, n, g⟩, hl, rfl⟩ := Option.map_eq_some_iff.mp hdx
      obtain ⟨b, ys, rfl, u1, u2⟩ := dp_tup hx2
      obtain ⟨x1, x2, x3, rfl, v1, v2, v3⟩ := dp3 u2
      cases v1
      cases v2
      cases v3
      refine ⟨b, _, rfl, sqT_same (e02.trans e') u1, rfl, _, _, rfl, ?_⟩
      refine ⟨_, _, rfl, ?_⟩
      refine ⟨_, _, rfl, ?_⟩
      refine ⟨rfl, rfl, ?_⟩
      refine yes_go ?_
      refine ⟨_, rfl, ?_⟩
      refine ⟨_, rfl, _, rfl, (by show 2 ≤ sizeLine; decide), fun p hp => ?_⟩
      have nDp : D ≠ p := fun z => by
        rw [z, hp] at k1
        cases k1
      have hklen : kvs.length ≤ 16 := by
        rw [tab_len k2]
        unfold tabOf
        rw [List.length_map, List.length_take]
        have := hok.1
        omega
      refine ⟨kvs, Sum.inr t, rfl, (upd_ne nDp).trans k1, sz_lt (by omega), ?_⟩
      have hnew : valV kvs (Sum.inr t : Key) = none := by
        rcases tab_val (t := t) k2 with ⟨_, h⟩ | ⟨_, d', h, _⟩
        · exact h
        · exfalso
          have hm := VG.mem_of_lookup h
          unfold tabOf at hm
          obtain ⟨l, hl1, hl2⟩ := List.mem_map.mp hm
          obtain ⟨j, hj⟩ := List.mem_iff_getElem?.mp hl1
          have hji : j < i := by
            have := (List.getElem?_eq_some_iff.mp hj).1
            rw [List.length_take] at this
            omega
          rw [List.getElem?_take_of_lt hji] at hj
          have hlt := asc_lt hok.2.2 (i := j) (j := i) hji (x := l.1) (y := t) (by rw [List.getElem?_map, hj]; rfl) (by rw [List.getElem?_map, hl]; rfl)
          have e5 : l.1 = t := (Prod.mk.inj hl2).1
          rw [e5] at hlt
          exact List.lt_irrefl _ hlt
      rw [putK_new _ hnew]
      refine ⟨_, ?_, upd_same, ?_⟩
      · exact ((e'.trans (Ex.new hp)).mut hD)
      · rw [List.take_add_one, hl]
        unfold tabOf
        rw [List.map_append]
        have vis : ∀ c o, (fun b => if b = D then none else hid Hv H H' b) c = some o → (fun b => if b = D then none else hid Hv H (upd (upd H' p (.tup [.int n, .int g])) D (.dK (kvs ++ [(Sum.inr t, V.ref p)]))) b) c = some o := by
          intro c o hc
          have hc : (if c = D then none else hid Hv H H' c) = some o := hc
          by_cases z : c = D
          · rw [if_pos z] at hc
            cases hc
          · rw [if_neg z] at hc
            obtain ⟨c1, c2⟩ := hid_some hc
            show (if c = D then none else _) = some o
            rw [if_neg z, hid_see c2, upd_ne z, upd_ne (ne_of_none c1 hp)]
            exact c1
        have hp0 : Hv p = none → H p = none := fun _ => ex_none (e2.trans e') hp
        refine paired_app (tab_same vis k2) (.cons ⟨rfl, ?_⟩ .nil)
        refine .tup (xs := [.int n, .int g]) (.inl (.inl ?_)) (.cons (.int n) (.cons (.int g) .nil))
        show (if p = D then none else _) = _
        rw [if_neg nDp.symm, hid_see hp0, upd_ne nDp.symm]
        exact upd_same
    · rintro H' ⟨kvs, e', k1, k2⟩
      rw [hlen, List.take_length] at k2
      exact q D kvs H' (e2.trans e') (ex_none e2 hD) k1 k2
end K10

set_option maxHeartbeats 4000000
namespace K10
open PySem PySem.Spec PyProof.Rows L2 Evl VG
variable {P : Program} {w : World} {K : PySem.W.Frag} {mg : Str → Option Value} {base : Heap} {f : Addr} {fd : FuncData}

/-! ### steps_for -/
abbrev s_steps_for : Stmt := top 20
theorem sc_steps_for : FnScope ["table", "tasks", "task"] ["table", "tasks"] (defScope s_steps_for) := ⟨rfl, rfl, rfl, by decide +kernel, rfl, by decide +kernel, by decide +kernel⟩
abbrev Stp := Int × Int
def stepD (s : Stp) : PyData := .tuple [.int s.1, .int s.2]
def look (tr : Tr) (t : Str) : Stp := (tr.lookup t).getD (0, 0)
theorem tab_look (tr : Tr) (t : Str) : ((tabOf tr).lookup t).getD (.tuple [.int 0, .int 0]) = stepD (look tr t) := by
  induction tr with
  | nil => rfl
  | cons l r ih =>
    obtain ⟨s, n, g⟩ := l
    unfold look tabOf at *
    rw [List.map_cons, List.lookup_cons, List.lookup_cons]
    cases h : t == s with
    | true => rfl
    | false => exact ih
def stepsD (tr : Tr) (ts : List Str) : PyData := .list (ts.map fun t => stepD (look tr t))
/-- the table a dict at p of which nothing is known but this -/
def spSteps (K : PySem.W.Frag) : Sp := fun vs H Q _ => ∃ Hv p kvs v tr ts, vs = [.ref p, v] ∧ Ex Hv H ∧ Hv p = some (.dK kvs) ∧ Tab K Hv kvs (tabOf tr) ∧
  Dp K Hv v (.tuple (ts.map .str)) ∧ ts.length ≤ 1000 ∧ ∀ v H2, Ex H H2 → Dp K (hid Hv H H2) v (stepsD tr ts) → Q v H2
theorem ok_steps_for (F : Fun K "steps_for" "steps_for" s_steps_for f fd) : FnG P w K mg base CX0 1 f fd ["table", "tasks"] (spSteps K) := by
  refine okG F sc_steps_for (fun vs H Q E h => ?_) (fun cdv A outer s H vs Q E hcm hr h => ?_)
  · obtain ⟨_, _, _, _, _, _, rfl, _⟩ := h
    rfl
  · obtain ⟨Hv, p, kvs, v, tr, ts, rfl, e, hp, ht, hv, hts, q⟩ := h
    have hu1 := hu_of hr
    refine ⟨_, (pss_one (ps_ret (pe_lc (own := [(("task" : Str), 2)])  rfl sc_steps_for.nd (pi_tup (pv 1)) (blkOk_by (N := ["table", "tasks", "task"]) (sc := defScope s_steps_for) (by decide +kernel)) (fun _ _ _ _ _ => (pg_name (i := 2) sc_steps_for.nd rfl (Or.inl rfl))) (fun _ _ _ _ _ => pts_nil) (fun _ _ _ _ _ => (pe_dget2 hu1 (pv 0) (pv 2) (pe_tup (pa_cons pe_int (pa_cons pe_int pa_nil))) ⟨rfl, rfl, rfl, rfl⟩))))), ?_⟩
    refine Runs.go (d := stepsD tr ts) ?_ e q
    refine ru_ret ?_
    have e0 := range_map_get ts (fun t => stepD (look tr t)) Str.empty
    rw [← List.length_map (f := PyData.str) (as := ts)] at e0
    unfold stepsD
    rw [← e0]
    refine ed_lcT _ (ed_var rfl hv) (by rw [List.length_map]; omega) ?_
    intro i x dx H' hdx e1 hx H'' e2 Qg k
    rw [List.getElem?_map] at hdx
    obtain ⟨t, hti, rfl⟩ := Option.map_eq_some_iff.mp hdx
    refine g_name rfl ?_ k
    have e3 : ts.getD i Str.empty = t := by
      rw [List.getD_eq_getElem?_getD, hti]
      rfl
    rw [e3, ← tab_look]
    exact ed_dget rfl (e1 _ _ hp) (tab_same e1 ht) (ed_var rfl hx) (ed_tup (eda_cons ed_int (eda_cons ed_int eda_nil)) (by show 2 ≤ 100000; decide))

/-! ### levels_from -/
abbrev s_levels_from : Stmt := top 22
theorem sc_levels_from : FnScope ["stock", "steps", "found", "need", "gain"] ["stock", "steps"] (defScope s_levels_from) := ⟨rfl, rfl, rfl, by decide +kernel, rfl, by decide +kernel, by decide +kernel⟩
def levelsM : Int → List Stp → List Int
  | s, [] => [s]
  | s, (n, g) :: r => if s < n then [s] else s :: levelsM (s + g) r
theorem levelsM_cons (s n g : Int) (r : List Stp) : levelsM s ((n, g) :: r) = if s < n then [s] else s :: levelsM (s + g) r := rfl
def okLevelsFrom : List PyData → PyData → Prop := fun ds d => ∃ s sts, ds = [.int s, .list (sts.map stepD)] ∧ sts.length ≤ 1000 ∧ d = .list ((levelsM s sts).map .int)
theorem last_at (pre : List Int) (z : Int) : atI ((pre ++ [z]).map V.int) (-1) = some (V.int z) := by
  rw [List.map_append]
  exact atI_last _ _
theorem ok_levels_from (F : Fun K "levels_from" "levels_from" s_levels_from f fd) : FnG P w K mg base CX0 1 f fd ["stock", "steps"] (spOf K 2 okLevelsFrom) := by
  refine okG F sc_levels_from (fun vs H Q E h => ?_) (fun cdv A outer s H vs Q E hcm hr h => ?_)
  · obtain ⟨_, _, _, h, _⟩ := h
    exact h
  · obtain ⟨Hv, ds, d, hl, e, hds, ⟨z0, sts, rfl, hsz, rfl⟩, q⟩ := h
    obtain ⟨v, u, rfl, h1, h2⟩ := dp2 hds
    cases h1
    obtain ⟨a, xs, rfl, s1, s2⟩ := dp_lst h2
    have hlen : xs.length = sts.length := by rw [dpAll_len s2, List.length_map]
    refine ⟨_, (pss_cons (ps_set (i := 2) sc_levels_from.nd rfl (Or.inl rfl) (pe_lst (pa_cons (pv 0) pa_nil)))
      (pss_cons (ps_for PassesOwn.never rfl (pi_list (pv 1)) (pg_tupK K (n := 2) rfl (pgs_cons (pg_name (i := 3) sc_levels_from.nd rfl (Or.inl rfl)) (pgs_cons (pg_name (i := 4) sc_levels_from.nd rfl (Or.inl rfl)) pgs_nil))) (pss_cons (ps_if (pt_cmpR op_lt (pe_ix (ix_listK K) (pv 2) (pe_un un_neg pe_int) (fun _ _ => rfl)) (pv 3) (nomark _)) (pss_one (ps_ret (pv 2))) pss_nil)
      (pss_one (ps_expr (pe_bm PySem.F.plainAttrs_list PySem.F.slot_list_append PySem.F.type_list_append mt_append (pv 2) (pa_cons (pe_op op_add (pe_ix (ix_listK K) (pv 2) (pe_un un_neg pe_int) (fun _ _ => rfl)) (pv 4)) pa_nil))))))
      (pss_one (ps_ret (pv 2))))), ?_⟩
    refine ⟨_, rfl, by show 1 ≤ sizeLine; decide, fun p hp => ?_⟩
    refine ⟨_, rfl, a, rfl, ⟨xs, ex_l (e.trans (Ex.new hp)) s1⟩, ?_⟩
    refine for_list (K := K) (a := a) (xs := xs) (fun i σ H' => ∃ (o1 o2 : Option V) (pre : List Int) (z : Int), σ = [some (.int z0), some (.ref a), some (.ref p), o1, o2] ∧ Ex H H' ∧
        H' p = some (.lst ((pre ++ [z]).map V.int)) ∧ pre.length ≤ i ∧ pre ++ levelsM z (sts.drop i) = levelsM z0 sts)
      ⟨none, none, [], z0, rfl, Ex.new hp, upd_same, Nat.le_refl _, by rw [List.nil_append, List.drop_zero]⟩ (fun i σ H' _ ⟨_, _, _, _, _, e', _⟩ => ex_l (e.trans e') s1) ?_ ?_
    · rintro i x σ H' hx ⟨o1, o2, pre, z, rfl, e', hp', hpl, hm⟩
      have hi : i < sts.length := by
        have := (List.getElem?_eq_some_iff.mp hx).1
        omega
      obtain ⟨dx, hdx, hx2⟩ := dpAll_get s2 hx
      rw [List.getElem?_map] at hdx
      obtain ⟨⟨n, g⟩, hst, rfl⟩ := Option.map_eq_some_iff.mp hdx
      have hdrop : sts.drop i = (n, g) :: sts.drop (i + 1) := by
        rw [List.drop_eq_getElem_cons hi]
        rw [List.getElem?_eq_getElem hi] at hst
        rw [Option.some.inj hst]
      obtain ⟨b, ys, rfl, u1, u2⟩ := dp_tup hx2
      obtain ⟨x1, x2, rfl, v1, v2⟩ := dp2 u2
      cases v1
      cases v2
      refine ⟨b, _, rfl, sqT_same (e.trans e') u1, rfl, _, _, rfl, ?_⟩
      refine ⟨_, _, rfl, ?_⟩
      refine ⟨rfl, ?_⟩
      -- if found[-1] < need: return found
      refine ⟨_, rfl, _, rfl, p, _, _, _, rfl, rfl, .inl (.inl hp'), last_at _ _, _, rfl, _, _, rfl, rfl, _, rfl, ?_⟩
      refine ite2 (fun hc => ?_) (fun hc => ?_)
      · have hc : z < n := of_decide_eq_true hc
        rw [hdrop, levelsM_cons] at hm
        rw [if_pos hc] at hm
        refine ⟨_, rfl, ?_⟩
        refine q _ H' e' ?_
        rw [← hm]
        exact .lst (.inl (.inl ((hid_new hp).trans hp'))) (dpAll_ints _)
      · have hc : ¬ z < n := fun h => hc (decide_eq_true h)
        rw [hdrop, levelsM_cons] at hm
        rw [if_neg hc] at hm
        refine ⟨_, rfl, .inl ⟨rfl, _, SqL.of hp'⟩, _, rfl, _, rfl, p, _, _, _, rfl, rfl, .inl (.inl hp'), last_at _ _, _, rfl, _, _, rfl, rfl, p, _, _, rfl, rfl, hp', ?_, ?_⟩
        · rw [List.length_map, List.length_append]
          exact sz_lt (by show pre.length + 1 < 100000; omega)
        · refine ⟨_, _, pre ++ [z], z + g, rfl, e'.mut hp, ?_, ?_, ?_⟩
          · rw [upd_same, List.map_append (l₂ := [z + g])]
            rfl
          · rw [List.length_append]
            show pre.length + 1 ≤ i + 1
            omega
          · rw [List.append_assoc]
            exact hm
    · rintro σ H' ⟨o1, o2, pre, z, rfl, e', hp', hpl, hm⟩
      rw [hlen, List.drop_length] at hm
      refine ⟨_, rfl, ?_⟩
      refine q _ H' e' ?_
      rw [← hm]
      exact .lst (.inl (.inl ((hid_new hp).trans hp'))) (dpAll_ints _)

/-! ### least_for -/
abbrev s_least_for : Stmt := top 23
theorem sc_least_for : FnScope ["steps", "lowest", "risen", "need", "gain"] ["steps"] (defScope s_least_for) := ⟨rfl, rfl, rfl, by decide +kernel, rfl, by decide +kernel, by decide +kernel⟩
def leastM : Int → Int → List Stp → Int
  | lo, _, [] => lo
  | lo, ri, (n, g) :: r => leastM (if n - ri > lo then n - ri else lo) (ri + g) r
def okLeastFor : List PyData → PyData → Prop := fun ds d => ∃ sts, ds = [.list (sts.map stepD)] ∧ sts.length ≤ 1000 ∧ d = .int (leastM 0 0 sts)
theorem ok_least_for (F : Fun K "least_for" "least_for" s_least_for f fd) (B : Bltn mg) : FnG P w K mg base CX0 1 f fd ["steps"] (spOf K 1 okLeastFor) := by
  refine okG F sc_least_for (fun vs H Q E h => ?_) (fun cdv A outer s H vs Q E hcm hr h => ?_)
  · obtain ⟨_, _, _, h, _⟩ := h
    exact h
  · obtain ⟨Hv, ds, d, hl, e, hds, ⟨sts, rfl, hsz, rfl⟩, q⟩ := h
    obtain ⟨v, rfl, h1⟩ := dp1 hds
    obtain ⟨a, xs, rfl, s1, s2⟩ := dp_lst h1
    have hlen : xs.length = sts.length := by rw [dpAll_len s2, List.length_map]
    refine ⟨_, (pss_cons (ps_set (i := 1) sc_least_for.nd rfl (Or.inl rfl) pe_int)
      (pss_cons (ps_set (i := 2) sc_least_for.nd rfl (Or.inl rfl) pe_int)
      (pss_cons (ps_for PassesOwn.never rfl (pi_list (pv 0)) (pg_tupK K (n := 2) rfl (pgs_cons (pg_name (i := 3) sc_least_for.nd rfl (Or.inl rfl)) (pgs_cons (pg_name (i := 4) sc_least_for.nd rfl (Or.inl rfl)) pgs_nil))) (pss_cons (ps_set (i := 1) sc_least_for.nd rfl (Or.inl rfl) (pe_callB (call_max2 rfl) (by rfl) B.max bt_max (pa_cons (pv 1) (pa_cons (pe_op op_sub (pv 3) (pv 2)) pa_nil))))
      (pss_one (ps_aug (i := 2) sc_least_for.nd rfl (Or.inl rfl) (pv 4) ip_add))))
      (pss_one (ps_ret (pv 1)))))), ?_⟩
    refine ⟨_, rfl, a, rfl, ⟨xs, ex_l e s1⟩, ?_⟩
    refine for_list (K := K) (a := a) (xs := xs) (fun i σ H' => ∃ (o1 o2 : Option V) (lo ri : Int), σ = [some (.ref a), some (.int lo), some (.int ri), o1, o2] ∧ Ex H H' ∧
        leastM lo ri (sts.drop i) = leastM 0 0 sts)
      ⟨none, none, 0, 0, rfl, Ex.refl _, by rw [List.drop_zero]⟩ (fun i σ H' _ ⟨_, _, _, _, _, e', _⟩ => ex_l (e.trans e') s1) ?_ ?_
    · rintro i x σ H' hx ⟨o1, o2, lo, ri, rfl, e', hm⟩
      have hi : i < sts.length := by
        have := (List.getElem?_eq_some_iff.mp hx).1
        omega
      obtain ⟨dx, hdx, hx2⟩ := dpAll_get s2 hx
      rw [List.getElem?_map] at hdx
      obtain ⟨⟨n, g⟩, hst, rfl⟩ := Option.map_eq_some_iff.mp hdx
      have hdrop : sts.drop i = (n, g) :: sts.drop (i + 1) := by
        rw [List.drop_eq_getElem_cons hi]
        rw [List.getElem?_eq_getElem hi] at hst
        rw [Option.some.inj hst]
      obtain ⟨b, ys, rfl, u1, u2⟩ := dp_tup hx2
      obtain ⟨x1, x2, rfl, v1, v2⟩ := dp2 u2
      cases v1
      cases v2
      refine ⟨b, _, rfl, sqT_same (e.trans e') u1, rfl, _, _, rfl, ?_⟩
      refine ⟨_, _, rfl, ?_⟩
      refine ⟨rfl, ?_⟩
      refine ⟨_, rfl, _, rfl, _, rfl, _, _, rfl, rfl, _, _, rfl, ?_⟩
      refine ⟨_, rfl, _, rfl, _, _, rfl, rfl, ?_⟩
      refine ⟨_, _, _, _, rfl, e', ?_⟩
      rw [hdrop] at hm
      exact hm
    · rintro σ H' ⟨o1, o2, lo, ri, rfl, e', hm⟩
      rw [hlen, List.drop_length] at hm
      refine ⟨_, rfl, ?_⟩
      refine q _ H' e' ?_
      rw [← hm]
      exact .int _
end K10

set_option maxHeartbeats 4000000
namespace K10
open PySem PySem.Spec PyProof.Rows L2 Evl VG
variable {P : Program} {w : World} {K : PySem.W.Frag} {mg : Str → Option Value} {base : Heap} {f : Addr} {fd : FuncData}

/-! ### checked_steps -/
abbrev s_checked_steps : Stmt := top 21
theorem sc_checked_steps : FnScope ["trade", "tasks", "table"] ["trade", "tasks"] (defScope s_checked_steps) := ⟨rfl, rfl, rfl, by decide +kernel, rfl, by decide +kernel, by decide +kernel⟩
def tasksOk (ts : List Str) : Prop := (∀ t ∈ ts, nameOk t) ∧ ts.Nodup ∧ ts.length ≤ 100
def okChecked : List PyData → PyData → Prop := fun ds d => ∃ tr ts, ds = [tradeD tr, .tuple (ts.map .str)] ∧ tradeOk tr ∧ tasksOk ts ∧ d = stepsD tr ts
theorem hid_via {Hv H H2 Hv' H3 : Hp} (e : Ex H H2) (hv : ∀ b, Hv' b ≠ none → Hv b = none → H b = none) : Ex (hid Hv' H2 H3) (hid Hv H H3) := fun b o h => by
  obtain ⟨h1, h2⟩ := hid_some h
  rw [hid_see (fun q => ?_)]
  · exact h1
  · by_cases z : Hv' b = none
    · exact ex_none e (h2 z)
    · exact hv b z q
theorem ed_lenSet {σ : L2.St} {H : Hp} {ta : TE} {ts : List Str} (ha : EvD K ta σ H (.tuple (ts.map .str))) (hn : ts.Nodup) (hl : ts.length ≤ 1000) : EvD K (tLenSetS K ta) σ H (.int (ts.length : Int)) := fun H1 e Q q =>
  ha H1 e _ fun x H2 e2 hx => by
    obtain ⟨a, xs, rfl, h1, h2⟩ := dp_tup hx
    rw [vals_of_strs h2] at h1
    exact ⟨a, ts, rfl, sqT_same hid_ex h1, hn, hl, q _ H2 e2 (.int _)⟩
theorem ok_checked_steps (F : Fun K "checked_steps" "checked_steps" s_checked_steps f fd) (B : Bltn mg) (D_trade_table : Def P w K mg base 4 "trade_table" ["trade"] (spTable K))
    (D_are_names : Def P w K mg base 2 "are_names" ["value"] (spOf K 1 okNames)) (D_steps_for : Def P w K mg base 1 "steps_for" ["table", "tasks"] (spSteps K)) :
    FnG P w K mg base CX0 5 f fd ["trade", "tasks"] (spOf K 2 okChecked) := by
  refine okG F sc_checked_steps (fun vs H Q E h => ?_) (fun cdv A outer s H vs Q E hcm hr h => ?_)
  · obtain ⟨_, _, _, h, _⟩ := h
    exact h
  · obtain ⟨Hv, ds, d, hl, e, hds, ⟨tr, ts, rfl, hok, ⟨t1, t2, t3⟩, rfl⟩, q⟩ := h
    obtain ⟨v, u, rfl, h1, h2⟩ := dp2 hds
    refine ⟨_, (pss_cons (ps_set (i := 2) sc_checked_steps.nd rfl (Or.inl rfl) (pe_d D_trade_table hcm hr (by decide) (by rfl) (pa_cons (pv 0) pa_nil)))
      (pss_cons (ps_if (PW.pt (pw_or (pt_not (pt_val (pe_d D_are_names hcm hr (by decide) (by rfl) (pa_cons (pv 1) pa_nil)))) (pw_or1 (pt_cmpR op_lt (pe_lenSetS (by rfl) B.len (by rfl) B.set (pv 1)) (pe_callB (call_lenK K) (by rfl) B.len bt_len (pa_cons (pv 1) pa_nil)) (nomark _))))) (pss_one ps_never) pss_nil)
      (pss_one (ps_ret (pe_d D_steps_for hcm hr (by decide) (by rfl) (pa_cons (pv 2) (pa_cons (pv 1) pa_nil))))))), ?_⟩
    refine ⟨_, rfl, Hv, v, tr, rfl, e, h1, hok, fun p kvs H2 e2 hp hk tab => ?_⟩
    let Hw : Hp := fun b => if b = p then some (.dK kvs) else hid Hv H H2 b
    have ew : Ex Hw H2 := fun b o hb => by
      have hb : (if b = p then some (.dK kvs) else hid Hv H H2 b) = some o := hb
      by_cases z : b = p
      · rw [if_pos z] at hb
        rw [z, hk]
        exact hb
      · rw [if_neg z] at hb
        exact (hid_some hb).1
    have hvp : Hv p = none := ex_none e hp
    have evw : Ex Hv Hw := fun b o hb => by
      show (if b = p then some (.dK kvs) else hid Hv H H2 b) = some o
      by_cases z : b = p
      · rw [z, hvp] at hb
        cases hb
      · rw [if_neg z]
        exact hid_base e e2 _ _ hb
    have tabw : Tab K Hw kvs (tabOf tr) := tab_same (fun b o hb => by
      have hb : (if b = p then none else hid Hv H H2 b) = some o := hb
      show (if b = p then some (.dK kvs) else hid Hv H H2 b) = some o
      by_cases z : b = p
      · rw [if_pos z] at hb
        cases hb
      · rw [if_neg z] at hb ⊢
        exact hb) tab
    have hpw : Hw p = some (.dK kvs) := if_pos rfl
    have hts : EvD K (tVar 1) [some v, some u, some (.ref p)] Hw (.tuple (ts.map .str)) := ed_var rfl (dp_same evw h2)
    refine q_not (K := K) (Hv := Hw) (et_or (a := false) (b := false) (et_not (a := true) (etB_bool (ed_call (E := E0) (eda_cons hts eda_nil) (spD_of (n := 1) (ok := okNames) ⟨ts, rfl, by omega, t1, rfl⟩))))
      fun _ => et_is (etI_lt (ed_lenSet hts t2 (by omega)) (ed_len hts)) ?_) ew fun H3 e3 => ?_
    · rw [List.length_map]
      exact decide_eq_false (by omega)
    · refine ⟨_, rfl, _, rfl, Hw, p, kvs, u, tr, ts, rfl, ew.trans e3, hpw, tabw, dp_same evw h2, by omega, fun x H4 e4 hx => ?_⟩
      refine q x H4 ((e2.trans e3).trans e4) (dp_same (hid_via (e2.trans e3) fun b hb hn => ?_) hx)
      by_cases z : b = p
      · rw [z]
        exact hp
      · have hb : hid Hv H H2 b ≠ none := by
          have hb : (if b = p then some (.dK kvs) else hid Hv H H2 b) ≠ none := hb
          rw [if_neg z] at hb
          exact hb
        cases hq : hid Hv H H2 b with
        | none => exact absurd hq hb
        | some o => exact (hid_some hq).2 hn
theorem ru_dropTable {σ : L2.St} {Hv : Hp} {i : Nat} {v : V} {u : TS} {d : PyData} {tr : Tr} (hi : σ[i]? = some (some v)) (hv : Dp K Hv v (tradeD tr)) (hok : tradeOk tr) (k : Runs K u σ Hv d) :
    Runs K (tSeq (tDrop (tCall (spTable K) [] E0 (tCons (tVar i) tNil))) u) σ Hv d := fun H1 e D q =>
  ⟨_, hi, Hv, v, tr, rfl, e, hv, hok, fun p kvs H2 e2 _ _ _ => k H2 (e.trans e2) D fun w H3 e3 hw => q w H3 (e2.trans e3) (dp_same (hid_late e2) hw)⟩

/-! ### levels -/
abbrev s_levels : Stmt := top 24
theorem sc_levels : FnScope ["trade", "stock", "tasks"] ["trade", "stock", "tasks"] (defScope s_levels) := ⟨rfl, rfl, rfl, by decide +kernel, rfl, by decide +kernel, by decide +kernel⟩
def stepsOf (tr : Tr) (ts : List Str) : List Stp := ts.map (look tr)
theorem stepsD_eq (tr : Tr) (ts : List Str) : stepsD tr ts = .list ((stepsOf tr ts).map stepD) := by
  unfold stepsD stepsOf
  rw [List.map_map]
  rfl
theorem stepsOf_len (tr : Tr) (ts : List Str) : (stepsOf tr ts).length = ts.length := List.length_map _
def okLevels : List PyData → PyData → Prop := fun ds d => ∃ tr s ts, ds = [tradeD tr, .int s, .tuple (ts.map .str)] ∧ tradeOk tr ∧ 0 ≤ s ∧ s ≤ 99999 ∧ tasksOk ts ∧ d = .tuple ((levelsM s (stepsOf tr ts)).map .int)
theorem ok_levels (F : Fun K "levels" "levels" s_levels f fd) (B : Bltn mg) (D_trade_table : Def P w K mg base 4 "trade_table" ["trade"] (spTable K)) (D_check_stock : Def P w K mg base 3 "check_stock" ["stock"] (spOf K 1 okCheck))
    (D_levels_from : Def P w K mg base 1 "levels_from" ["stock", "steps"] (spOf K 2 okLevelsFrom)) (D_checked_steps : Def P w K mg base 5 "checked_steps" ["trade", "tasks"] (spOf K 2 okChecked)) :
    FnG P w K mg base CX0 6 f fd ["trade", "stock", "tasks"] (spOf K 3 okLevels) := by
  refine okG F sc_levels (fun vs H Q E h => ?_) (fun cdv A outer s H vs Q E hcm hr h => ?_)
  · obtain ⟨_, _, _, h, _⟩ := h
    exact h
  · obtain ⟨Hv, ds, d, hl, e, hds, ⟨tr, z, ts, rfl, hok, z1, z2, hts, rfl⟩, q⟩ := h
    obtain ⟨v, u, x, rfl, h1, h2, h3⟩ := dp3 hds
    refine ⟨_, (pss_cons (ps_expr (pe_d D_trade_table hcm hr (by decide) (by rfl) (pa_cons (pv 0) pa_nil)))
      (pss_cons (ps_expr (pe_d D_check_stock hcm hr (by decide) (by rfl) (pa_cons (pv 1) pa_nil)))
      (pss_one (ps_ret (pe_callTy call_tuple_of (by rfl) B.tuple bt_tuple (pa_cons (pe_d D_levels_from hcm hr (by decide) (by rfl) (pa_cons (pv 1) (pa_cons (pe_d D_checked_steps hcm hr (by decide) (by rfl) (pa_cons (pv 0) (pa_cons (pv 2) pa_nil))) pa_nil))) pa_nil)))))), ?_⟩
    refine Runs.go (d := .tuple ((levelsM z (stepsOf tr ts)).map .int)) ?_ e q
    refine ru_dropTable rfl h1 hok ?_
    refine ru_drop (ed_call (eda_cons (ed_var rfl h2) eda_nil) (spD_of ⟨z, rfl, z1, z2, rfl⟩)) ?_
    refine ru_ret (ed_tupleOf (ed_call (eda_cons (ed_var rfl h2) (eda_cons (ed_call (eda_cons (ed_var rfl h1) (eda_cons (ed_var rfl h3) eda_nil)) (spD_of ⟨tr, ts, rfl, hok, hts, rfl⟩)) eda_nil)) (spD_of ⟨z, stepsOf tr ts, ?_, ?_, rfl⟩)))
    · rw [stepsD_eq]
    · rw [stepsOf_len]
      have := hts.2.2
      omega

/-! ### least -/
abbrev s_least : Stmt := top 25
theorem sc_least : FnScope ["trade", "tasks"] ["trade", "tasks"] (defScope s_least) := ⟨rfl, rfl, rfl, by decide +kernel, rfl, by decide +kernel, by decide +kernel⟩
def okLeast : List PyData → PyData → Prop := fun ds d => ∃ tr ts, ds = [tradeD tr, .tuple (ts.map .str)] ∧ tradeOk tr ∧ tasksOk ts ∧ d = .int (leastM 0 0 (stepsOf tr ts))
theorem ok_least (F : Fun K "least" "least" s_least f fd)
    (D_least_for : Def P w K mg base 1 "least_for" ["steps"] (spOf K 1 okLeastFor)) (D_checked_steps : Def P w K mg base 5 "checked_steps" ["trade", "tasks"] (spOf K 2 okChecked)) :
    FnG P w K mg base CX0 6 f fd ["trade", "tasks"] (spOf K 2 okLeast) := by
  refine okG F sc_least (fun vs H Q E h => ?_) (fun cdv A outer s H vs Q E hcm hr h => ?_)
  · obtain ⟨_, _, _, h, _⟩ := h
    exact h
  · obtain ⟨Hv, ds, d, hl, e, hds, ⟨tr, ts, rfl, hok, hts, rfl⟩, q⟩ := h
    obtain ⟨v, u, rfl, h1, h2⟩ := dp2 hds
    refine ⟨_, (pss_one (ps_ret (pe_d D_least_for hcm hr (by decide) (by rfl) (pa_cons (pe_d D_checked_steps hcm hr (by decide) (by rfl) (pa_cons (pv 0) (pa_cons (pv 1) pa_nil))) pa_nil)))), ?_⟩
    refine Runs.go (d := .int (leastM 0 0 (stepsOf tr ts))) ?_ e q
    refine ru_ret (ed_call (eda_cons (ed_call (eda_cons (ed_var rfl h1) (eda_cons (ed_var rfl h2) eda_nil)) (spD_of ⟨tr, ts, rfl, hok, hts, rfl⟩)) eda_nil) (spD_of ⟨stepsOf tr ts, ?_, ?_, rfl⟩))
    · rw [stepsD_eq]
    · rw [stepsOf_len]
      have := hts.2.2
      omega

/-! ### net -/
abbrev s_net : Stmt := top 26
theorem sc_net : FnScope ["trade", "tasks", "need", "gain"] ["trade", "tasks"] (defScope s_net) := ⟨rfl, rfl, rfl, by decide +kernel, rfl, by decide +kernel, by decide +kernel⟩
def netM (sts : List Stp) : Int := (sts.map (·.2)).sum
def okNet : List PyData → PyData → Prop := fun ds d => ∃ tr ts, ds = [tradeD tr, .tuple (ts.map .str)] ∧ tradeOk tr ∧ tasksOk ts ∧ d = .int (netM (stepsOf tr ts))
theorem ok_net (F : Fun K "net" "net" s_net f fd) (B : Bltn mg) (D_checked_steps : Def P w K mg base 5 "checked_steps" ["trade", "tasks"] (spOf K 2 okChecked)) :
    FnG P w K mg base CX0 6 f fd ["trade", "tasks"] (spOf K 2 okNet) := by
  refine okG F sc_net (fun vs H Q E h => ?_) (fun cdv A outer s H vs Q E hcm hr h => ?_)
  · obtain ⟨_, _, _, h, _⟩ := h
    exact h
  · obtain ⟨Hv, ds, d, hl, e, hds, ⟨tr, ts, rfl, hok, hts, rfl⟩, q⟩ := h
    obtain ⟨v, u, rfl, h1, h2⟩ := dp2 hds
    refine ⟨_, (pss_one (ps_ret (pe_callB (cr_sumK K rfl) (by rfl) B.sum bt_sum (pa_cons (pe_lc (own := [(("need" : Str), 2), (("gain" : Str), 3)])  rfl sc_net.nd (pi_list (pe_d D_checked_steps hcm hr (by decide) (by rfl) (pa_cons (pv 0) (pa_cons (pv 1) pa_nil)))) (blkOk_by (N := ["trade", "tasks", "need", "gain"]) (sc := defScope s_net) (by decide +kernel)) (fun _ _ _ _ _ => (pg_tupK K (n := 2) rfl (pgs_cons (pg_name (i := 2) sc_net.nd rfl (Or.inl rfl)) (pgs_cons (pg_name (i := 3) sc_net.nd rfl (Or.inl rfl)) pgs_nil)))) (fun _ _ _ _ _ => pts_nil) (fun _ _ _ _ _ => (pv 3))) pa_nil)))), ?_⟩
    refine Runs.go (d := .int (netM (stepsOf tr ts))) ?_ e q
    refine ru_ret (ed_sum (ns := (stepsOf tr ts).map (·.2)) ?_)
    rw [List.map_map]
    rw [← range_map_get (stepsOf tr ts) (PyData.int ∘ fun x => x.2) (0, 0)]
    have hl : (stepsOf tr ts).length = ((stepsOf tr ts).map stepD).length := (List.length_map _).symm
    rw [hl]
    have hb := hts.2.2
    refine ed_lcL _ (ed_call (eda_cons (ed_var rfl h1) (eda_cons (ed_var rfl h2) eda_nil)) (spD_of (n := 2) (ok := okChecked) ⟨tr, ts, rfl, hok, hts, (stepsD_eq tr ts).symm⟩)) (by rw [← hl, stepsOf_len]; omega) ?_
    intro i x dx H' hdx e1 hx H'' e2 Qg k
    rw [List.getElem?_map] at hdx
    obtain ⟨⟨n, g⟩, hst, rfl⟩ := Option.map_eq_some_iff.mp hdx
    refine g_tup2 hx e2 (fun _ _ => rfl) (fun a b ha hb => ?_) k
    have e3 : (stepsOf tr ts).getD i (0, 0) = (n, g) := by
      rw [List.getD_eq_getElem?_getD, hst]
      rfl
    rw [e3]
    exact ed_var rfl hb

/-! ### told_back -/
abbrev s_told_back : Stmt := top 27
theorem sc_told_back : FnScope ["trade", "task", "need", "gain"] ["trade"] (defScope s_told_back) := ⟨rfl, rfl, rfl, by decide +kernel, rfl, by decide +kernel, by decide +kernel⟩
def backL (l : Line) : Line := (l.1, l.2.1 + l.2.2, -l.2.2)
def okBack : List PyData → PyData → Prop := fun ds d => ∃ tr, ds = [tradeD tr] ∧ tradeOk tr ∧ d = tradeD (tr.map backL)
theorem ok_told_back (F : Fun K "told_back" "told_back" s_told_back f fd) (B : Bltn mg) (D_trade_table : Def P w K mg base 4 "trade_table" ["trade"] (spTable K)) :
    FnG P w K mg base CX0 5 f fd ["trade"] (spOf K 1 okBack) := by
  refine okG F sc_told_back (fun vs H Q E h => ?_) (fun cdv A outer s H vs Q E hcm hr h => ?_)
  · obtain ⟨_, _, _, h, _⟩ := h
    exact h
  · obtain ⟨Hv, ds, d, hl, e, hds, ⟨tr, rfl, hok, rfl⟩, q⟩ := h
    obtain ⟨v, rfl, h1⟩ := dp1 hds
    refine ⟨_, (pss_cons (ps_expr (pe_d D_trade_table hcm hr (by decide) (by rfl) (pa_cons (pv 0) pa_nil)))
      (pss_one (ps_ret (pe_callTy call_tuple_of (by rfl) B.tuple bt_tuple (pa_cons (pe_lc (own := [(("task" : Str), 1), (("need" : Str), 2), (("gain" : Str), 3)])  rfl sc_told_back.nd (pi_tup (pv 0)) (blkOk_by (N := ["trade", "task", "need", "gain"]) (sc := defScope s_told_back) (by decide +kernel)) (fun _ _ _ _ _ => (pg_tupK K (n := 3) rfl (pgs_cons (pg_name (i := 1) sc_told_back.nd rfl (Or.inl rfl)) (pgs_cons (pg_name (i := 2) sc_told_back.nd rfl (Or.inl rfl)) (pgs_cons (pg_name (i := 3) sc_told_back.nd rfl (Or.inl rfl)) pgs_nil))))) (fun _ _ _ _ _ => pts_nil) (fun _ _ _ _ _ => (pe_tup (pa_cons (pv 1) (pa_cons (pe_op op_add (pv 2) (pv 3)) (pa_cons (pe_un un_neg (pv 3)) pa_nil)))))) pa_nil))))), ?_⟩
    refine Runs.go (d := tradeD (tr.map backL)) ?_ e q
    refine ru_dropTable rfl h1 hok (ru_ret (ed_tupleOf ?_))
    have e0 := range_map_get tr (lineD ∘ backL) (Str.empty, 0, 0)
    rw [← List.length_map (f := lineD) (as := tr)] at e0
    rw [List.map_map, ← e0]
    refine ed_lcT _ (ed_var rfl h1) (by rw [List.length_map]; have := hok.1; omega) ?_
    intro i x dx H' hdx e1 hx H'' e2 Qg k
    rw [List.getElem?_map] at hdx
    obtain ⟨⟨t, n, g⟩, hst, rfl⟩ := Option.map_eq_some_iff.mp hdx
    refine g_tup3 hx e2 (fun _ _ _ => rfl) (fun a b c ha hb hc => ?_) k
    have e3 : tr.getD i (Str.empty, 0, 0) = (t, n, g) := by
      rw [List.getD_eq_getElem?_getD, hst]
      rfl
    rw [e3]
    exact ed_tup (eda_cons (ed_var rfl ha) (eda_cons (ed_I0 (g := fun i j => i + j) (ed_var rfl hb) (ed_var rfl hc)) (eda_cons (ed_neg (ed_var rfl hc)) eda_nil))) (by show 3 ≤ 100000; decide)
end K10

set_option maxHeartbeats 4000000
namespace K10
open PySem PySem.Spec PyProof.Rows L2 Evl VG
variable {P : Program} {w : World} {K : PySem.W.Frag} {mg : Str → Option Value} {base : Heap} {f : Addr} {fd : FuncData}

/-! ### _law_pot -/
abbrev s_law_pot : Stmt := top 29
theorem sc_law_pot : FnScope ["_law_script", "_law_place", "_law_cell", "_law_own", "_law_small"] ["_law_script", "_law_place"] (defScope s_law_pot) := ⟨rfl, rfl, rfl, by decide +kernel, rfl, by decide +kernel, by decide +kernel⟩
theorem bit_ok (b : Bool) : -(2 ^ 64) < (if b = true then (1 : Int) else 0) ∧ (if b = true then (1 : Int) else 0) < 2 ^ 64 := by
  cases b <;> decide
theorem own_ok (A : Int) (b : Bool) : 0 ≤ (if A < 0 then -A else A) % (((10 : Int) ^ (60 : Int).toNat) ^ (5 : Int).toNat) * (if b then 1 else 0) ∧
    ((if A < 0 then -A else A) % (((10 : Int) ^ (60 : Int).toNat) ^ (5 : Int).toNat) * (if b then 1 else 0)).natAbs < 2 ^ 2000 := by
  have hM : (0 : Int) < ((10 : Int) ^ (60 : Int).toNat) ^ (5 : Int).toNat := by decide +kernel
  have hM2 : ((10 : Int) ^ (60 : Int).toNat) ^ (5 : Int).toNat ≤ ((2 ^ 2000 : Nat) : Int) := by decide +kernel
  generalize ((10 : Int) ^ (60 : Int).toNat) ^ (5 : Int).toNat = M at hM hM2
  generalize (if A < 0 then -A else A) = B
  have h1 := Int.emod_nonneg B (show M ≠ 0 by omega)
  have h2 := Int.emod_lt_of_pos B hM
  cases b with
  | true =>
    show 0 ≤ B % M * 1 ∧ (B % M * 1).natAbs < 2 ^ 2000
    rw [Int.mul_one]
    exact ⟨h1, natAbs_lt h1 (by omega)⟩
  | false =>
    show 0 ≤ B % M * 0 ∧ (B % M * 0).natAbs < 2 ^ 2000
    rw [Int.mul_zero]
    exact ⟨Int.le_refl _, by decide +kernel⟩
theorem ok_pot (F : Fun K "_law_pot" "_law_pot" s_law_pot f fd) (B : Bltn mg) : FnG P w K mg base CX0 1 f fd ["_law_script", "_law_place"] (spPot K) := by
  refine okG F sc_law_pot (fun vs H Q E h => ?_) (fun cdv A outer s H vs Q E hcm hr h => ?_)
  · obtain ⟨_, _, _, rfl, _⟩ := h
    rfl
  · obtain ⟨a, ns, p, rfl, hS, hl, hp, q⟩ := h
    refine ⟨_, (pss_cons (ps_set (i := 2) sc_law_pot.nd rfl (Or.inl rfl) (pe_ifExp (pt_cmpR op_lt (pv 1) (pe_callB (call_lenK K) (by rfl) B.len bt_len (pa_cons (pv 0) pa_nil)) (nomark _)) (pe_ix (ix_listK K) (pv 0) (pv 1) (fun _ _ => rfl)) (pe_op op_add (pe_op op_mul pe_int (pv 1)) pe_int)))
      (pss_cons (ps_set (i := 3) sc_law_pot.nd rfl (Or.inl rfl) (pe_op op_mul (pe_op op_mod (pe_callTy call_int1 (by rfl) B.int bt_int (pa_cons (pe_callB call_abs (by rfl) B.abs bt_abs (pa_cons (pv 2) pa_nil)) pa_nil)) (pe_op op_powX (pe_op op_pow pe_int pe_int) pe_int)) (pe_callTy call_int1 (by rfl) B.int bt_int (pa_cons (pe_cmpR op_ge (pe_callB call_abs (by rfl) B.abs bt_abs (pa_cons (pv 2) pa_nil)) (pe_op op_pow pe_int pe_int) (nomark _)) pa_nil))))
      (pss_cons (ps_set (i := 4) sc_law_pot.nd rfl (Or.inl rfl) (pe_op op_mod (pe_callTy call_int1 (by rfl) B.int bt_int (pa_cons (pv 2) pa_nil)) pe_int))
      (pss_one (ps_ret (pe_lst (pa_cons (pv 3) (pa_cons (pe_op op_mod (pe_callTy call_int1 (by rfl) B.int bt_int (pa_cons (pe_op op_add (pe_op op_add (pe_op op_mul (pv 4) pe_int) (pe_op op_mul (pe_op op_mul pe_int (pv 1)) (pv 1))) pe_int) pa_nil)) pe_int) (pa_cons pe_int pa_nil))))))))), ?_⟩
    obtain ⟨cell, hcell⟩ := ed_cell (K := K) (σ := L2.start ["_law_script", "_law_place", "_law_cell", "_law_own", "_law_small"] [.ref a, .int (p : Int)]) (c1 := 243) (c2 := 97) rfl rfl hS (by decide)
    refine qs_setI hcell (Ex.refl _) fun H1 e1 => ?_
    have cv : ∀ H', EvD K (tVar 2) [some (.ref a), some (.int (p : Int)), some (.int cell), none, none] H' (.int cell) := fun H' => ed_var rfl (.int _)
    refine qs_setI (K := K) (H0 := H1) (ed_I (g := fun i j => i * j) (ed_I (g := fun i j => i % j) (ed_intI (ed_abs (cv H1)))
        (ed_I (g := fun i j => i ^ j.toNat) (ed_I (g := fun i j => i ^ j.toNat) ed_int ed_int ⟨by decide, by decide, by decide⟩) ed_int ⟨by decide, by decide +kernel⟩) ?_)
      (ed_intB (etI_ge (ed_abs (cv H1)) (ed_I (g := fun i j => i ^ j.toNat) ed_int ed_int ⟨by decide, by decide, by decide⟩))) ?_) (Ex.refl _) fun H2 e2 => ?_
    · show (0 : Int) < ((10 : Int) ^ (60 : Int).toNat) ^ (5 : Int).toNat
      decide +kernel
    · exact .inr (bit_ok _)
    obtain ⟨o1, o2⟩ := own_ok cell (decide ((10 : Int) ^ (18 : Int).toNat ≤ if cell < 0 then -cell else cell))
    generalize ((if cell < 0 then -cell else cell) % (((10 : Int) ^ (60 : Int).toNat) ^ (5 : Int).toNat) * (if decide ((10 : Int) ^ (18 : Int).toNat ≤ if cell < 0 then -cell else cell) then 1 else 0)) = own at o1 o2
    refine qs_setI (K := K) (H0 := H2) (ed_I (g := fun i j => i % j) (ed_intI (ed_var rfl (.int cell))) ed_int (by decide)) (Ex.refl _) fun H3 e3 => ?_
    have m1 := Int.emod_nonneg cell (show (2305843009213693951 : Int) ≠ 0 by decide)
    have m2 := Int.emod_lt_of_pos cell (show (0 : Int) < 2305843009213693951 by decide)
    generalize cell % 2305843009213693951 = small at m1 m2
    -- the list of three
    refine ⟨_, rfl, ?_⟩
    refine ev_int (K := K) (H := H3) (ed_I (g := fun i j => i % j) (ed_intI (ed_I0 (g := fun i j => i + j) (ed_I0 (g := fun i j => i + j)
          (ed_I (g := fun i j => i * j) (ed_var rfl (.int small)) ed_int (.inr ⟨by decide, by decide⟩))
          (ed_I (g := fun i j => i * j) (ed_I (g := fun i j => i * j) ed_int (ed_var rfl (.int (p : Int))) (.inl ⟨by decide, by decide⟩)) (ed_var rfl (.int (p : Int))) (.inr ⟨by omega, by omega⟩))) ed_int)) ed_int (by decide)) H3 (Ex.refl _) _ fun H4 e4 => ?_
    refine ⟨by show 3 ≤ sizeLine; decide, fun q' hq' => ?_⟩
    have e14 : Ex H H4 := ((e1.trans e2).trans e3).trans e4
    refine q q' _ (ex_none e14 hq') (e14.trans (Ex.new hq')) ⟨own, _, 0, upd_same, o1, o2, Int.emod_nonneg _ (by decide), ?_, Int.le_refl _, Int.le_refl _⟩
    exact Int.lt_trans (Int.emod_lt_of_pos _ (by decide)) (by decide)
end K10

set_option maxHeartbeats 4000000
namespace K10
open PySem PySem.Spec PyProof.Rows L2 Evl VG
variable {P : Program} {w : World} {K : PySem.W.Frag} {mg : Str → Option Value} {base : Heap} {f : Addr} {fd : FuncData}

/-! ### _law_take -/
abbrev s_law_take : Stmt := top 30
theorem sc_law_take : FnScope ["_law_pot_here", "_law_upto", "_law_prime", "_law_blend", "_law_digit"] ["_law_pot_here", "_law_upto"] (defScope s_law_take) := ⟨rfl, rfl, rfl, by decide +kernel, rfl, by decide +kernel, by decide +kernel⟩
theorem ok_take (F : Fun K "_law_take" "_law_take" s_law_take f fd) (B : Bltn mg) : FnG P w K mg base CX0 1 f fd ["_law_pot_here", "_law_upto"] spTake := by
  refine okG F sc_law_take (fun vs H Q E h => ?_) (fun cdv A outer s H vs Q E hcm hr h => ?_)
  · obtain ⟨_, _, _, rfl, _⟩ := h
    rfl
  · obtain ⟨a, n, k, rfl, ⟨u, v, c, ha, u1, u2, v1, v2, c1, c2⟩, hn, k1, k2, q⟩ := h
    have lp : ∀ {H' : Hp} {x y z : Int}, H' a = some (potL x y z) → Dp K H' (.ref a) (.list [.int x, .int y, .int z]) := fun {H' x y z} h => .lst (.inl (.inl h)) (.cons (.int x) (.cons (.int y) (.cons (.int z) .nil)))
    refine ⟨_, (pss_cons (ps_if (pt_cmpR op_gt (pe_ix (ix_listK K) (pv 0) pe_int (fun _ _ => rfl)) pe_int (nomark _)) (pss_cons (ps_set (i := 4) sc_law_take.nd rfl (Or.inl rfl) (pe_op op_mod (pe_callTy call_int1 (by rfl) B.int bt_int (pa_cons (pe_ix (ix_listK K) (pv 0) pe_int (fun _ _ => rfl)) pa_nil)) (pv 1)))
      (pss_cons (ps_asg (pe_op op_fdivW (pe_ix (ix_listK K) (pv 0) pe_int (fun _ _ => rfl)) (pv 1)) (pg_sub (pv 0) pe_int set_list))
      (pss_one (ps_ret (pv 4))))) pss_nil)
      (pss_cons (ps_asg (pe_op op_add (pe_ix (ix_listK K) (pv 0) pe_int (fun _ _ => rfl)) pe_int) (pg_sub (pv 0) pe_int set_list))
      (pss_cons (ps_set (i := 2) sc_law_take.nd rfl (Or.inl rfl) (pe_ix (ix_listK K) (pe_lst (pa_cons pe_int (pa_cons pe_int (pa_cons pe_int (pa_cons pe_int (pa_cons pe_int pa_nil)))))) (pe_op op_mod (pe_callTy call_int1 (by rfl) B.int bt_int (pa_cons (pe_ix (ix_listK K) (pv 0) pe_int (fun _ _ => rfl)) pa_nil)) pe_int) (fun _ _ => rfl)))
      (pss_cons (ps_set (i := 3) sc_law_take.nd rfl (Or.inl rfl) (pe_op op_mod (pe_callTy call_int1 (by rfl) B.int bt_int (pa_cons (pe_op op_pow (pe_callTy call_int1 (by rfl) B.int bt_int (pa_cons (pe_op op_add (pe_op op_add (pe_ix (ix_listK K) (pv 0) pe_int (fun _ _ => rfl)) (pe_op op_mul (pe_op op_mul pe_int (pe_ix (ix_listK K) (pv 0) pe_int (fun _ _ => rfl))) (pe_ix (ix_listK K) (pv 0) pe_int (fun _ _ => rfl)))) pe_int) pa_nil)) pe_int) pa_nil)) (pv 2)))
      (pss_cons (ps_set (i := 3) sc_law_take.nd rfl (Or.inl rfl) (pe_op op_mod (pe_callTy call_int1 (by rfl) B.int bt_int (pa_cons (pe_op op_mul (pv 3) (pe_op op_add (pe_op op_mod (pe_callTy call_int1 (by rfl) B.int bt_int (pa_cons (pv 3) pa_nil)) pe_int) (pe_op op_mul pe_int (pe_ix (ix_listK K) (pv 0) pe_int (fun _ _ => rfl))))) pa_nil)) pe_int))
      (pss_one (ps_ret (pe_op op_mod (pe_callTy call_int1 (by rfl) B.int bt_int (pa_cons (pe_op op_fdiv (pv 3) pe_int) pa_nil)) (pv 1))))))))), ?_⟩
    have d0 := lp ha
    refine qs_if (b := decide (0 < u)) (etI_gt (ed_ixL (k := 0) (ed_var rfl d0) ed_int rfl) ed_int) (Ex.refl _) (fun hb H1 e1 => ?_) (fun hb H1 e1 => ?_)
    · have hu : 0 < u := of_decide_eq_true hb
      have a1 := e1 _ _ ha
      have m1 := Int.emod_nonneg u (show k ≠ 0 by omega)
      have m2 := Int.emod_lt_of_pos u k1
      have q1 : 0 ≤ u / k := Int.ediv_nonneg u1 (by omega)
      have q2 : (u / k).natAbs < 2 ^ 2000 := Nat.lt_of_le_of_lt (by have := Int.ediv_le_self k u1; omega) u2
      refine qs_setI (K := K) (ed_I (g := fun i j => i % j) (ed_intI (ed_ixL (k := 0) (ed_var rfl (lp a1)) ed_int rfl)) (ed_var rfl (.int k)) k1) (Ex.refl _) fun H2 e2 => ?_
      have a2 := e2 _ _ a1
      refine qs_pot (K := K) (j := 0) (xs := [.int u, .int v, .int c]) (ed_I (g := fun i j => i / j) (ed_ixL (k := 0) (ed_var rfl (lp a2)) ed_int rfl) (ed_var rfl (.int k)) ⟨k1, ?_⟩) (Ex.refl _) rfl a2 rfl (by show 0 < 3; decide) fun H3 e3 => ?_
      · exact Nat.lt_trans (PySem.Flt.log2_lt_of (k := 20) (by decide) (by omega)) (by decide)
      refine ⟨_, rfl, ?_⟩
      refine q _ _ m1 m2 ((But.ex ((e1.trans e2).trans e3)).upd) ⟨u / k, v, c, upd_same, q1, q2, v1, v2, c1, by omega⟩
    · have a1 := e1 _ _ ha
      -- pot[2] = pot[2] + 1
      refine qs_pot (K := K) (j := 2) (xs := [.int u, .int v, .int c]) (ed_I0 (g := fun i j => i + j) (ed_ixL (k := 2) (ed_var rfl (lp a1)) ed_int rfl) ed_int) (Ex.refl _) rfl a1 rfl (by show 2 < 3; decide) fun H2 e2 => ?_
      have a3 : upd H2 a (.lst [.int u, .int v, .int (c + 1)]) a = some (potL u v (c + 1)) := upd_same
      have b3 : But a H (upd H2 a (.lst [.int u, .int v, .int (c + 1)])) := (But.ex (e1.trans e2)).upd
      change tSeq _ _ _ _ (upd H2 a (.lst [.int u, .int v, .int (c + 1)]))
      generalize upd H2 a (.lst [.int u, .int v, .int (c + 1)]) = H3 at a3 b3
      -- the prime
      have m1 := Int.emod_nonneg (c + 1) (show (5 : Int) ≠ 0 by decide)
      have m2 := Int.emod_lt_of_pos (c + 1) (show (0 : Int) < 5 by decide)
      obtain ⟨pr, p1, p2, p3⟩ : ∃ pr : Int, ([PyData.int 2147483647, .int 2147483629, .int 2147483587, .int 2147483579, .int 2147483563] : List PyData)[((c + 1) % 5).toNat]? = some (.int pr) ∧ 0 < pr ∧ pr < 2 ^ 31 := by
        have : (c + 1) % 5 = 0 ∨ (c + 1) % 5 = 1 ∨ (c + 1) % 5 = 2 ∨ (c + 1) % 5 = 3 ∨ (c + 1) % 5 = 4 := by omega
        rcases this with h | h | h | h | h <;> rw [h] <;> exact ⟨_, rfl, by decide, by decide⟩
      refine qs_setI (K := K) (ed_ixLz (k := ((c + 1) % 5).toNat) (ed_lst (eda_cons ed_int (eda_cons ed_int (eda_cons ed_int (eda_cons ed_int (eda_cons ed_int eda_nil))))) (by show 5 ≤ 100000; decide))
        (ed_I (g := fun i j => i % j) (ed_intI (ed_ixL (k := 2) (ed_var rfl (lp a3)) ed_int rfl)) ed_int (by decide)) (by omega) p1) (Ex.refl _) fun H4 e4 => ?_
      have a4 := e4 _ _ a3
      -- the blend
      have cb : -(2 ^ 64) < c + 1 ∧ c + 1 < 2 ^ 64 := ⟨by omega, by omega⟩
      have sq1 : (c + 1) * (c + 1) ≤ 1000001 * 1000001 := Int.mul_le_mul (by omega) (by omega) (by omega) (by decide)
      have sq0 : 0 ≤ (c + 1) * (c + 1) := Int.mul_nonneg (by omega) (by omega)
      have hk1 : EvD K (tOp (rIxL K) (tVar 0) (tC (.int 1))) [some (.ref a), some (.int k), none, some (.int pr), none] H4 (.int v) := ed_ixL (k := 1) (ed_var rfl (lp a4)) ed_int rfl
      have hk2 : EvD K (tOp (rIxL K) (tVar 0) (tC (.int 2))) [some (.ref a), some (.int k), none, some (.int pr), none] H4 (.int (c + 1)) := ed_ixL (k := 2) (ed_var rfl (lp a4)) ed_int rfl
      refine qs_setI (K := K) (ed_I (g := fun i j => i % j) (ed_intI (ed_I (g := fun i j => i ^ j.toNat) (ed_intI (ed_I0 (g := fun i j => i + j) (ed_I0 (g := fun i j => i + j) hk1
          (ed_I (g := fun i j => i * j) (ed_I (g := fun i j => i * j) ed_int hk2 (.inl ⟨by decide, by decide⟩)) hk2 (.inr cb))) ed_int)) ed_int ⟨by decide, by decide, ?_⟩)) (ed_var rfl (.int pr)) p2) (Ex.refl _) fun H5 e5 => ?_
      · rw [Int.mul_assoc]
        omega
      have a5 := e5 _ _ a4
      generalize hbl : ((v + 98041 * (c + 1) * (c + 1) + 99) ^ (3 : Int).toNat) % pr = bl
      have b1 : 0 ≤ bl := by rw [← hbl]; exact Int.emod_nonneg _ (by omega)
      have b2 : bl < pr := by rw [← hbl]; exact Int.emod_lt_of_pos _ p2
      have hb5 : EvD K (tVar 4) [some (.ref a), some (.int k), none, some (.int pr), some (.int bl)] H5 (.int bl) := ed_var rfl (.int _)
      have hk5 : EvD K (tOp (rIxL K) (tVar 0) (tC (.int 2))) [some (.ref a), some (.int k), none, some (.int pr), some (.int bl)] H5 (.int (c + 1)) := ed_ixL (k := 2) (ed_var rfl (lp a5)) ed_int rfl
      refine qs_setI (K := K) (ed_I (g := fun i j => i % j) (ed_intI (ed_I (g := fun i j => i * j) hb5 (ed_I0 (g := fun i j => i + j) (ed_I (g := fun i j => i % j) (ed_intI hb5) ed_int (by decide))
          (ed_I (g := fun i j => i * j) ed_int hk5 (.inl ⟨by decide, by decide⟩))) (.inl ⟨by omega, by omega⟩))) ed_int (by decide)) (Ex.refl _) fun H6 e6 => ?_
      have a6 := e6 _ _ a5
      refine qs_retI (K := K) (ed_I (g := fun i j => i % j) (ed_intI (ed_I (g := fun i j => i / j) (ed_var rfl (.int _)) ed_int ⟨by decide, by decide⟩)) (ed_var rfl (.int k)) k1) (Ex.refl _) fun H7 e7 => ?_
      refine q _ H7 (Int.emod_nonneg _ (by omega)) (Int.emod_lt_of_pos _ k1) (b3.trans (But.ex (((e4.trans e5).trans e6).trans e7))) ⟨u, v, c + 1, e7 _ _ a6, u1, u2, v1, v2, by omega, by omega⟩
end K10

set_option maxHeartbeats 4000000
namespace K10
open PySem PySem.Spec PyProof.Rows L2 Evl VG
variable {P : Program} {w : World} {K : PySem.W.Frag} {mg : Str → Option Value} {base : Heap} {f : Addr} {fd : FuncData}

/-! ### _law_of -/
abbrev s_law_of : Stmt := top 31
theorem sc_law_of : FnScope ["_law_pot_here", "_law_some_here"] ["_law_pot_here", "_law_some_here"] (defScope s_law_of) := ⟨rfl, rfl, rfl, by decide +kernel, rfl, by decide +kernel, by decide +kernel⟩
theorem ok_of (F : Fun K "_law_of" "_law_of" s_law_of f fd) (B : Bltn mg) (D_law_take : Def P w K mg base 1 "_law_take" ["_law_pot_here", "_law_upto"] spTake) :
    FnG P w K mg base CX0 2 f fd ["_law_pot_here", "_law_some_here"] (spOne K) := by
  refine okG F sc_law_of (fun vs H Q E h => ?_) (fun cdv A outer s H vs Q E hcm hr h => ?_)
  · obtain ⟨_, _, _, _, rfl, _⟩ := h
    rfl
  · obtain ⟨a, b, n, xs, rfl, hp, hn, hba, hS, x1, x2, q⟩ := h
    refine ⟨_, (pss_one (ps_ret (pe_ix (ix_listK K) (pv 1) (pe_d D_law_take hcm hr (by decide) (by rfl) (pa_cons (pv 0) (pa_cons (pe_callB (call_lenK K) (by rfl) B.len bt_len (pa_cons (pv 1) pa_nil)) pa_nil))) (fun _ _ => rfl)))), ?_⟩
    refine ⟨_, rfl, _, rfl, _, rfl, b, xs, rfl, .inl hS, a, n, _, rfl, hp, hn, by omega, by omega, fun r H' r0 r1 hb hp' => ?_⟩
    have hS' : SqL K H' b xs := by
      rcases hS with (h | ⟨o, h⟩) | h
      · exact .inl (.inl (hb _ _ hba h))
      · exact .inl (.inr ⟨o, hb _ _ hba h⟩)
      · exact .inr h
    have hlt : r.toNat < xs.length := by omega
    refine ⟨b, xs, r, xs[r.toNat], rfl, rfl, hS', ?_, q _ H' (List.getElem_mem hlt) hb hp'⟩
    have e : r = ((r.toNat : Nat) : Int) := by omega
    exact L2.at_of e (List.getElem?_eq_getElem hlt)

/-! ### _law_some -/
abbrev s_law_some : Stmt := top 32
theorem sc_law_some : FnScope ["_law_pot_here", "_law_pool", "_law_amount", "_law_lap", "_law_left", "_law_found"] ["_law_pot_here", "_law_pool", "_law_amount"] (defScope s_law_some) := ⟨rfl, rfl, rfl, by decide +kernel, rfl, by decide +kernel, by decide +kernel⟩
theorem ok_some (F : Fun K "_law_some" "_law_some" s_law_some f fd) (B : Bltn mg) (D_law_take : Def P w K mg base 1 "_law_take" ["_law_pot_here", "_law_upto"] spTake) :
    FnG P w K mg base CX0 2 f fd ["_law_pot_here", "_law_pool", "_law_amount"] (spSome K) := by
  refine okG F sc_law_some (fun vs H Q E h => ?_) (fun cdv A outer s H vs Q E hcm hr h => ?_)
  · obtain ⟨_, _, _, _, _, rfl, _⟩ := h
    rfl
  · obtain ⟨a, b, n, m, ts, rfl, hp, hn, hba, hS, t1, t2, t3, q⟩ := h
    refine ⟨_, (pss_cons (ps_par (i := 4) (j := 5) rfl sc_law_some.nd rfl rfl (by decide) rfl rfl (pa_cons (pe_callTy call_list_of (by rfl) B.list bt_list (pa_cons (pv 1) pa_nil)) (pa_cons (pe_lst pa_nil) pa_nil)) rfl)
      (pss_cons (ps_for PassesOwn.never rfl (pi_range1 (by rfl) B.range (pa_cons (pv 2) pa_nil)) (pg_name (i := 3) sc_law_some.nd rfl (Or.inl rfl)) (pss_one (ps_expr (pe_bm PySem.F.plainAttrs_list PySem.F.slot_list_append PySem.F.type_list_append mt_append (pv 5) (pa_cons (pe_bm PySem.F.plainAttrs_list PySem.F.slot_list_pop PySem.F.type_list_pop mt_popAt (pv 4) (pa_cons (pe_d D_law_take hcm hr (by decide) (by rfl) (pa_cons (pv 0) (pa_cons (pe_callB (call_lenK K) (by rfl) B.len bt_len (pa_cons (pv 4) pa_nil)) pa_nil))) pa_nil)) pa_nil)))))
      (pss_one (ps_ret (pv 5))))), ?_⟩
    refine ⟨_, rfl, b, _, rfl, .inl hS, fun l hl => ?_⟩
    refine ⟨by show 0 ≤ sizeLine; decide, fun p hpn => ?_⟩
    have npl : p ≠ l := fun z => by
      rw [z, upd_same] at hpn
      cases hpn
    have hp0 : H p = none := by
      rw [upd_ne npl] at hpn
      exact hpn
    have nal : a ≠ l := fun z => hp.some (by rw [z]; exact hl)
    have nap : a ≠ p := fun z => hp.some (by rw [z]; exact hp0)
    refine ⟨_, _, rfl, ?_⟩
    refine ⟨_, rfl, (m : Int), rfl, by omega, by omega, ?_⟩
    rw [Int.toNat_natCast]
    refine for_range (lo := 0) (n := m) (fun i σ H' => ∃ (o : Option V) (left us : List Str), σ = [some (.ref a), some (.ref b), some (.int (m : Int)), o, some (.ref l), some (.ref p)] ∧ But a H H' ∧ Pot a (n + i) H' ∧
        H' l = some (.lst (left.map V.str)) ∧ H' p = some (.lst (us.map V.str)) ∧ left.length = ts.length - i ∧ us.length = i ∧ (us ++ left).Nodup ∧ (∀ u ∈ us ++ left, u ∈ ts))
      ⟨none, ts, [], rfl, But.ex ((Ex.new hl).trans (Ex.new hpn)), hp.ex ((Ex.new hl).trans (Ex.new hpn)), by rw [upd_ne npl.symm, upd_same], upd_same, rfl, rfl, t1, fun u hu => hu⟩ ?_ ?_
    · rintro i σ H' hi ⟨o, left, us, rfl, hb, hp', hl', hq', l1, l2, nd, sub⟩
      refine ⟨_, rfl, .inl ⟨rfl, _, SqL.of hq'⟩, _, rfl, .inl ⟨rfl, _, SqL.of hl'⟩, ?_⟩
      refine ⟨_, rfl, _, rfl, l, _, rfl, .inl (SqL.of hl'), a, n + i, _, rfl, hp', by omega, ?_, ?_, fun r H2 r0 r1 hb2 hp2 => ?_⟩
      · rw [List.length_map]
        omega
      · rw [List.length_map]
        omega
      rw [List.length_map] at r1
      have hl2 : H2 l = some (.lst (left.map V.str)) := hb2 _ _ nal.symm hl'
      have hq2 : H2 p = some (.lst (us.map V.str)) := hb2 _ _ nap.symm hq'
      have hlt : r.toNat < left.length := by omega
      have hsq : seqIndex? r (left.map V.str).length = some r.toNat := by
        have e9 : ((r.toNat : Nat) : Int) = r := by omega
        have s9 := (ixN_seq (Evl.ixN_nat hlt)).1
        rw [e9] at s9
        rw [List.length_map]
        exact s9
      refine ⟨l, _, r, r.toNat, .str left[r.toNat], rfl, rfl, hl2, by omega, by omega, hsq, by rw [List.getElem?_map, List.getElem?_eq_getElem hlt]; rfl, ?_⟩
      refine ⟨p, _, _, rfl, rfl, (upd_ne npl).trans hq2, ?_, ?_⟩
      · rw [List.length_map]
        exact sz_lt (by omega)
      · refine ⟨_, left.eraseIdx r.toNat, us ++ [left[r.toNat]], rfl, ?_, ?_, ?_, ?_, ?_, ?_, ?_, ?_⟩
        · intro c u nc hc
          have nl : c ≠ l := ne_of_none hc hl
          have np : c ≠ p := ne_of_none hc hp0
          rw [upd_ne np, upd_ne nl]
          exact hb2 _ _ nc (hb _ _ nc hc)
        · obtain ⟨u, v, c, z, rest⟩ := hp2
          refine ⟨u, v, c, ?_, by simpa [Nat.add_assoc] using rest⟩
          rw [upd_ne nap, upd_ne nal]
          exact z
        · rw [upd_ne npl.symm, upd_same, erase_map]
        · rw [upd_same, List.map_append]
          rfl
        · rw [List.length_eraseIdx_of_lt hlt]
          omega
        · rw [List.length_append, l2]
          rfl
        · have pm : (us ++ [left[r.toNat]] ++ left.eraseIdx r.toNat).Perm (us ++ left) := by
            rw [List.append_assoc]
            exact List.Perm.append_left _ (perm_out hlt)
          exact pm.nodup_iff.mpr nd
        · intro u hu
          have pm : (us ++ [left[r.toNat]] ++ left.eraseIdx r.toNat).Perm (us ++ left) := by
            rw [List.append_assoc]
            exact List.Perm.append_left _ (perm_out hlt)
          exact sub u (pm.mem_iff.mp hu)
    · rintro σ H' ⟨o, left, us, rfl, hb, hp', hl', hq', l1, l2, nd, sub⟩
      refine ⟨_, rfl, ?_⟩
      exact q p us H' (nd.sublist (List.sublist_append_left _ _)) (fun u hu => sub u (List.mem_append_left _ hu)) l2 hp0 hb hp' hq'

/-! ### _law_cells -/
abbrev s_law_cells : Stmt := top 33
theorem sc_law_cells : FnScope ["_law_script", "_law_limit"] ["_law_script", "_law_limit"] (defScope s_law_cells) := ⟨rfl, rfl, rfl, by decide +kernel, rfl, by decide +kernel, by decide +kernel⟩
theorem ok_cells (F : Fun K "_law_cells" "_law_cells" s_law_cells f fd) (B : Bltn mg) : FnG P w K mg base CX0 1 f fd ["_law_script", "_law_limit"] (spCells K) := by
  refine okG F sc_law_cells (fun vs H Q E h => ?_) (fun cdv A outer s H vs Q E hcm hr h => ?_)
  · obtain ⟨_, _, _, rfl, _⟩ := h
    rfl
  · obtain ⟨a, ns, z, rfl, hS, hl, z0, z1, q⟩ := h
    refine ⟨_, (pss_one (ps_ret (pe_listRg rfl (by rfl) B.list (prg_1 (by rfl) B.range (pe_callB (call_max2 rfl) (by rfl) B.max bt_max (pa_cons pe_int (pa_cons (pe_callB (call_min2 rfl) (by rfl) B.min bt_min (pa_cons (pv 1) (pa_cons (pe_callB (call_lenK K) (by rfl) B.len bt_len (pa_cons (pv 0) pa_nil)) pa_nil))) pa_nil))))))), ?_⟩
    have hs : Dp K H (.ref a) (.list (ns.map .int)) := .lst hS (dpAll_ints ns)
    have hm := ev_int (K := K) (σ := [some (.ref a), some (.int z)]) (H := H) (ed_max2 (ed_int (i := 1)) (ed_min2 (ed_var (i := 1) rfl (.int z)) (ed_is (by rw [List.length_map]) (ed_lenL (ed_var (i := 0) rfl hs)))))
    refine hm H (Ex.refl _) (fun x H1 => ∃ n, x = V.int n ∧ RgOk 0 n ∧ ∀ q, H1 q = none → Q (.ref q) (upd H1 q (.lst (rgV 0 n)))) fun H1 e1 => ?_
    have b1 : 0 ≤ (if (if (ns.length : Int) < z then (ns.length : Int) else z) > 1 then (if (ns.length : Int) < z then (ns.length : Int) else z) else 1) := by split <;> omega
    have b2 : (if (if (ns.length : Int) < z then (ns.length : Int) else z) > 1 then (if (ns.length : Int) < z then (ns.length : Int) else z) else 1) ≤ 100 := by split <;> split <;> omega
    generalize (if (if (ns.length : Int) < z then (ns.length : Int) else z) > 1 then (if (ns.length : Int) < z then (ns.length : Int) else z) else 1) = y at b1 b2
    refine ⟨y, rfl, .of_le (by omega) (by omega) (by omega) (by omega), fun p hp => ?_⟩
    refine q p y.toNat _ (by omega) (ex_none e1 hp) (e1.trans (Ex.new hp)) ?_
    rw [upd_same]
    unfold rgV
    rw [Int.sub_zero]
    simp only [Int.zero_add]
end K10

set_option maxHeartbeats 4000000
namespace K10
open PySem PySem.Spec PyProof.Rows L2 Evl VG
variable {P : Program} {w : World} {K : PySem.W.Frag} {mg : Str → Option Value} {base : Heap} {f : Addr} {fd : FuncData}

/-! ### _law_names -/
abbrev s_law_names : Stmt := top 34
theorem sc_law_names : FnScope ["_law_pot_here", "_law_amount", "_law_pool"] ["_law_pot_here", "_law_amount"] (defScope s_law_names) := ⟨rfl, rfl, rfl, by decide +kernel, rfl, by decide +kernel, by decide +kernel⟩
def pool16 : List Str := ["a", "b", "c", "d", "task", "may", "few", "do", "go", "x", "zzzzzzzz", "same", "bench", "stock", "plan", "m"]
def goodB (z : Str) : Bool := decide (1 ≤ z.length) && decide (z.length ≤ 8) && z.cps.toList.all fun c => decide (97 ≤ c) && decide (c ≤ 122)
theorem nameOk_of {z : Str} (h : goodB z = true) : nameOk z := by
  simp only [goodB, Bool.and_eq_true, decide_eq_true_eq, List.all_eq_true] at h
  obtain ⟨⟨h1, h2⟩, h3⟩ := h
  refine ⟨h1, h2, fun i c hc => h3 c ?_⟩
  rw [← Array.getElem?_toList] at hc
  exact List.mem_of_getElem? hc
theorem pool_ok : ∀ z ∈ pool16, nameOk z := fun z hz => nameOk_of (by
  have h : pool16.all goodB = true := by decide +kernel
  exact List.all_eq_true.mp h z hz)
theorem pool_nd : pool16.Nodup := by decide +kernel
def spNames : Sp := fun vs H Q _ => ∃ (a : Addr) (n m : Nat), vs = [.ref a, .int (m : Int)] ∧ Pot a n H ∧ n + m ≤ 1000000 ∧ m ≤ 16 ∧
  ∀ (q : Addr) (us : List Str) (H' : Hp), us.Nodup → (∀ u ∈ us, u ∈ pool16) → us.length = m → H q = none → But a H H' → Pot a (n + m) H' → H' q = some (.lst (us.map V.str)) → Q (.ref q) H'
theorem ok_names (F : Fun K "_law_names" "_law_names" s_law_names f fd) (D_law_some : Def P w K mg base 2 "_law_some" ["_law_pot_here", "_law_pool", "_law_amount"] (spSome K)) :
    FnG P w K mg base CX0 3 f fd ["_law_pot_here", "_law_amount"] spNames := by
  refine okG F sc_law_names (fun vs H Q E h => ?_) (fun cdv A outer s H vs Q E hcm hr h => ?_)
  · obtain ⟨_, _, _, rfl, _⟩ := h
    rfl
  · obtain ⟨a, n, m, rfl, hp, hn, hm, q⟩ := h
    refine ⟨_, (pss_cons (ps_set (i := 2) sc_law_names.nd rfl (Or.inl rfl) (pe_lst (pa_cons pe_str (pa_cons pe_str (pa_cons pe_str (pa_cons pe_str (pa_cons pe_str (pa_cons pe_str (pa_cons pe_str (pa_cons pe_str (pa_cons pe_str (pa_cons pe_str (pa_cons pe_str (pa_cons pe_str (pa_cons pe_str (pa_cons pe_str pa_nil))))))))))))))))
      (pss_one (ps_ret (pe_d D_law_some hcm hr (by decide) (by rfl) (pa_cons (pv 0) (pa_cons (pe_op op_cat (pv 2) (pe_lst (pa_cons pe_str (pa_cons pe_str pa_nil)))) (pa_cons (pv 1) pa_nil))))))), ?_⟩
    refine ⟨by show 14 ≤ sizeLine; decide, fun p hp1 => ?_⟩
    refine ⟨_, rfl, ?_⟩
    refine ⟨_, rfl, ?_⟩
    refine ⟨by show 2 ≤ sizeLine; decide, fun p2 hp2 => ?_⟩
    have n12 : p ≠ p2 := fun z => by
      rw [z, upd_same] at hp2
      cases hp2
    refine ⟨p, p2, _, _, rfl, rfl, (upd_ne n12).trans upd_same, upd_same, by show 16 ≤ sizeLine; decide, fun p3 hp3 => ?_⟩
    have e3 := ((Ex.new hp1).trans (Ex.new hp2)).trans (Ex.new hp3 (o := .lst (pool16.map V.str)))
    have hp30 : H p3 = none := ex_none ((Ex.new hp1).trans (Ex.new hp2)) hp3
    refine ⟨_, rfl, ?_⟩
    refine ⟨a, p3, n, m, pool16, rfl, hp.ex e3, hn, ?_, .inl (.inl upd_same), pool_nd, hm, by show 16 ≤ 1000; decide, fun q' us H' u1 u2 u3 hq hb hp' hq' => ?_⟩
    · intro z
      exact hp.some (z ▸ hp30)
    · exact q q' us H' u1 u2 u3 (ex_none e3 hq) ((But.ex e3).trans hb) hp' hq'

/-! ### _law_trade -/
abbrev s_law_trade : Stmt := top 35
theorem sc_law_trade : FnScope ["_law_pot_here", "_law_tasks", "_law_great", "_law_found", "_law_task", "_law_need", "_law_some_here"] ["_law_pot_here", "_law_tasks", "_law_great"] (defScope s_law_trade) := ⟨rfl, rfl, rfl, by decide +kernel, rfl, by decide +kernel, by decide +kernel⟩
/-- what is new in H' but q -/
def newIn (H H' : Hp) (q : Addr) : Hp := fun c => if H c = none ∧ c ≠ q then H' c else none
theorem newIn_at {H H' : Hp} {q c : Addr} (h : H c = none) (n : c ≠ q) : newIn H H' q c = H' c := if_pos ⟨h, n⟩
theorem newIn_some {H H' : Hp} {q c : Addr} {o : HO} (h : newIn H H' q c = some o) : H c = none ∧ c ≠ q ∧ H' c = some o := by
  unfold newIn at h
  split at h
  · rename_i x
    exact ⟨x.1, x.2, h⟩
  · cases h
/-- a drawn line -/
def drawnOk (l : Line) : Prop := 0 ≤ l.2.1 ∧ l.2.1 ≤ 9999 ∧ 0 ≤ l.2.1 + l.2.2 ∧ l.2.2 ≤ 9999
def spTrade (K : PySem.W.Frag) : Sp := fun vs H Q _ => ∃ (a b : Addr) (n : Nat) (G : Int) (ts : List Str), vs = [.ref a, .ref b, .int G] ∧ Pot a n H ∧ n + 200 ≤ 1000000 ∧ b ≠ a ∧ SqL K H b (ts.map V.str) ∧ ts.Nodup ∧ ts.length ≤ 16 ∧ 2 ≤ G ∧ G ≤ 9999 ∧
  ∀ (q : Addr) (es : Tr) (kvs : List (Key × V)) (H' : Hp), (es.map (·.1)).Nodup → (∀ l ∈ es, l.1 ∈ ts ∧ drawnOk l) → es.length ≤ 16 → H q = none → But a H H' → Pot a (n + 200) H' → H' q = some (.dK kvs) → Tab K (newIn H H' q) kvs (tabOf es) → Q (.ref q) H'
theorem tabOf_len (es : Tr) : (tabOf es).length = es.length := List.length_map _
theorem tab_new {H : Hp} {kvs : List (Key × V)} {es : Tr} {t : Str} (h : Tab K H kvs (tabOf es)) (n : t ∉ es.map (·.1)) : valV kvs (Sum.inr t : Key) = none := by
  rcases tab_val (t := t) h with ⟨_, h⟩ | ⟨_, d', h, _⟩
  · exact h
  · exfalso
    have hm := VG.mem_of_lookup h
    unfold tabOf at hm
    obtain ⟨l, hl1, hl2⟩ := List.mem_map.mp hm
    exact n (List.mem_map.mpr ⟨l, hl1, (Prod.mk.inj hl2).1⟩)
theorem sql_but {a b : Addr} {H H' : Hp} {xs : List V} (hb : But a H H') (n : b ≠ a) (hS : SqL K H b xs) : SqL K H' b xs := by
  rcases hS with (h | ⟨o, h⟩) | h
  · exact .inl (.inl (hb _ _ n h))
  · exact .inl (.inr ⟨o, hb _ _ n h⟩)
  · exact .inr h
theorem ok_trade (F : Fun K "_law_trade" "_law_trade" s_law_trade f fd) (D_law_take : Def P w K mg base 1 "_law_take" ["_law_pot_here", "_law_upto"] spTake)
    (D_law_of : Def P w K mg base 2 "_law_of" ["_law_pot_here", "_law_some_here"] (spOne K)) :
    FnG P w K mg base CX0 3 f fd ["_law_pot_here", "_law_tasks", "_law_great"] (spTrade K) := by
  refine okG F sc_law_trade (fun vs H Q E h => ?_) (fun cdv A outer s H vs Q E hcm hr h => ?_)
  · obtain ⟨_, _, _, _, _, rfl, _⟩ := h
    rfl
  · obtain ⟨a, b, n, G, ts, rfl, hp, hn, hba, hS, t1, t2, g1, g2, q⟩ := h
    have hu1 := hu_of hr
    refine ⟨_, (pss_cons (ps_set (i := 3) sc_law_trade.nd rfl (Or.inl rfl) pe_dnewK)
      (pss_cons (ps_for PassesOwn.never rfl (pi_list (pv 1)) (pg_name (i := 4) sc_law_trade.nd rfl (Or.inl rfl)) (pss_one (ps_if (pt_cmpR op_gt (pe_d D_law_take hcm hr (by decide) (by rfl) (pa_cons (pv 0) (pa_cons pe_int pa_nil))) pe_int (nomark _)) (pss_cons (ps_set (i := 5) sc_law_trade.nd rfl (Or.inl rfl) (pe_d D_law_of hcm hr (by decide) (by rfl) (pa_cons (pv 0) (pa_cons (pe_lst (pa_cons pe_int (pa_cons pe_int (pa_cons pe_int (pa_cons (pe_d D_law_take hcm hr (by decide) (by rfl) (pa_cons (pv 0) (pa_cons (pe_op op_add (pv 2) pe_int) pa_nil))) pa_nil))))) pa_nil))))
      (pss_cons (ps_set (i := 6) sc_law_trade.nd rfl (Or.inl rfl) (pe_lst (pa_cons (pe_un un_neg (pv 5)) (pa_cons pe_int (pa_cons pe_int (pa_cons pe_int (pa_cons (pe_d D_law_take hcm hr (by decide) (by rfl) (pa_cons (pv 0) (pa_cons (pe_op op_add (pv 2) pe_int) pa_nil))) (pa_cons (pe_op op_sub (pe_d D_law_take hcm hr (by decide) (by rfl) (pa_cons (pv 0) (pa_cons (pe_op op_add (pv 5) pe_int) pa_nil))) (pv 5)) pa_nil))))))))
      (pss_one (ps_dput hu1 (pv 3) (pv 4) (pe_tup (pa_cons (pv 5) (pa_cons (pe_d D_law_of hcm hr (by decide) (by rfl) (pa_cons (pv 0) (pa_cons (pv 6) pa_nil))) pa_nil))) rfl)))) pss_nil)))
      (pss_one (ps_ret (pv 3))))), ?_⟩
    intro d hd
    have nad : a ≠ d := fun z => hp.some (by rw [z]; exact hd)
    refine ⟨_, rfl, b, rfl, ⟨_, sql_but (But.ex (Ex.new hd)) hba hS⟩, ?_⟩
    refine for_list (K := K) (a := b) (xs := ts.map V.str) (fun i σ H' => ∃ (es : Tr) (kvs : List (Key × V)) (o1 o2 o3 : Option V), σ = [some (.ref a), some (.ref b), some (.int G), some (.ref d), o1, o2, o3] ∧ But a H H' ∧ Pot a (n + 8 * i) H' ∧
        H' d = some (.dK kvs) ∧ Tab K (newIn H H' d) kvs (tabOf es) ∧ (es.map (·.1)).Sublist (ts.take i) ∧ (∀ l ∈ es, drawnOk l))
      ⟨[], [], none, none, none, rfl, But.ex (Ex.new hd), hp.ex (Ex.new hd), upd_same, .nil, List.Sublist.refl _, fun l hl => absurd hl List.not_mem_nil⟩
      (fun i σ H' _ ⟨_, _, _, _, _, _, hb, _⟩ => sql_but hb hba hS) ?_ ?_
    · rintro i x σ H0 hx ⟨es, kvs, o1, o2, o3, rfl, hb0, hp0, hd0, tab0, sub0, ok0⟩
      rw [List.getElem?_map] at hx
      obtain ⟨t, ht, rfl⟩ := Option.map_eq_some_iff.mp hx
      have hi : i < ts.length := (List.getElem?_eq_some_iff.mp ht).1
      have hee : es.length ≤ i := by
        have h1 := sub0.length_le
        rw [List.length_map, List.length_take] at h1
        omega
      have htk : ts.take (i + 1) = ts.take i ++ [t] := by
        rw [List.take_add_one, ht]
        rfl
      -- the first draw
      refine ⟨_, rfl, a, n + 8 * i, 6, rfl, hp0, by omega, by decide, by decide, fun r1 H1 _ _ hb1 hp1 => ?_⟩
      have hb01 := hb0.trans hb1
      refine ⟨_, _, rfl, rfl, _, rfl, ?_⟩
      refine ite2 (fun _ => ?_) (fun _ => ?_)
      rotate_left
      · -- nothing is told of it
        refine ⟨es, kvs, _, _, _, rfl, hb01, hp1.le (by omega), hb1 _ _ nad.symm hd0, tab_same (fun c o hc => ?_) tab0, sub0.trans ?_, ok0⟩
        · obtain ⟨c1, c2, c3⟩ := newIn_some hc
          rw [newIn_at c1 c2]
          exact hb1 _ _ (fun z => hp.some (z ▸ c1)) c3
        · rw [htk]
          exact List.sublist_append_left _ _
      -- need
      refine ⟨_, rfl, _, rfl, _, rfl, _, _, rfl, rfl, a, n + 8 * i + 1, G + 1, rfl, hp1, by omega, by omega, by omega, fun r2 H2 r20 r21 hb2 hp2 => ?_⟩
      refine ⟨by show 4 ≤ sizeLine; decide, fun p3 hp3 => ?_⟩
      refine ⟨a, p3, n + 8 * i + 2, _, rfl, hp2.ex (Ex.new hp3), by omega, fun z => hp2.some (z ▸ hp3), .inl (.inl upd_same), (by show 0 < 4; decide), (by show 4 ≤ 1000; decide), fun v H4 hv hb4 hp4 => ?_⟩
      obtain ⟨need, rfl, nd0, nd1⟩ : ∃ need : Int, v = .int need ∧ 0 ≤ need ∧ need ≤ 9999 := by
        simp only [List.mem_cons, List.not_mem_nil, or_false] at hv
        rcases hv with h | h | h | h <;> rw [h] <;> exact ⟨_, rfl, by omega, by omega⟩
      have hb14 : But a H1 H4 := (hb2.trans (But.ex (Ex.new hp3))).trans hb4
      -- the list of gains
      refine ⟨_, rfl, need, rfl, ?_⟩
      refine ⟨_, rfl, _, rfl, _, _, rfl, rfl, a, n + 8 * i + 3, G + 1, rfl, hp4, by omega, by omega, by omega, fun r5 H5 r50 r51 hb5 hp5 => ?_⟩
      refine ⟨_, rfl, _, rfl, _, _, rfl, rfl, a, n + 8 * i + 4, need + 1, rfl, hp5, by omega, by omega, by omega, fun r6 H6 r60 r61 hb6 hp6 => ?_⟩
      refine ⟨_, rfl, _, _, rfl, rfl, ?_⟩
      refine ⟨by show 6 ≤ sizeLine; decide, fun p7 hp7 => ?_⟩
      have hp6' := hp6.ex (Ex.new hp7 (o := .lst [.int (-need), .int 0, .int 1, .int 2, .int r5, .int (r6 - need)]))
      have s7 : upd H6 p7 (.lst [.int (-need), .int 0, .int 1, .int 2, .int r5, .int (r6 - need)]) p7 = some (.lst [.int (-need), .int 0, .int 1, .int 2, .int r5, .int (r6 - need)]) := upd_same
      have hb67 : But a H6 (upd H6 p7 (.lst [.int (-need), .int 0, .int 1, .int 2, .int r5, .int (r6 - need)])) := But.ex (Ex.new hp7)
      have np7 : p7 ≠ a := fun z => hp6.some (z ▸ hp7)
      -- found[task] = (need, gain)
      refine ⟨_, rfl, _, rfl, _, rfl, ?_⟩
      refine ⟨a, p7, n + 8 * i + 5, _, rfl, hp6', by omega, np7, .inl (.inl s7), (by show 0 < 6; decide), (by show 6 ≤ 1000; decide), fun v8 H8 hv8 hb8 hp8 => ?_⟩
      obtain ⟨gain, rfl, gn0, gn1⟩ : ∃ gain : Int, v8 = .int gain ∧ 0 ≤ need + gain ∧ gain ≤ 9999 := by
        simp only [List.mem_cons, List.not_mem_nil, or_false] at hv8
        rcases hv8 with h | h | h | h | h | h <;> rw [h] <;> exact ⟨_, rfl, by omega, by omega⟩
      refine ⟨by show 2 ≤ sizeLine; decide, fun p9 hp9 => ?_⟩
      have hb18 : But a H1 H8 := (((hb14.trans hb5).trans hb6).trans hb67).trans hb8
      have hd8 : H8 d = some (.dK kvs) := hb18 _ _ nad.symm (hb1 _ _ nad.symm hd0)
      have n9d : d ≠ p9 := fun z => by
        rw [z, hp9] at hd8
        cases hd8
      have hb09 : But a H (upd H8 p9 (.tup [.int need, .int gain])) := ((hb01.trans hb18)).trans (But.ex (Ex.new hp9))
      have h9 : H p9 = none := by
        cases q9 : H p9 with
        | none => rfl
        | some o =>
          by_cases z : p9 = a
          · exact absurd hp9 (z ▸ hp8.some)
          · have := (hb01.trans hb18) _ _ z q9
            rw [hp9] at this
            cases this
      refine ⟨_, rfl, _, rfl, ?_⟩
      have nt : t ∉ es.map (·.1) := fun hm => by
        have hm2 := sub0.subset hm
        obtain ⟨j, hj⟩ := List.mem_iff_getElem?.mp hm2
        have hji : j < i := by
          have := (List.getElem?_eq_some_iff.mp hj).1
          rw [List.length_take] at this
          omega
        rw [List.getElem?_take_of_lt hji] at hj
        have := nd_ix t1 hj ht
        omega
      refine ⟨d, _, rfl, .inl ⟨kvs, Sum.inr t, (upd_ne n9d).trans hd8, rfl, ?_, rfl⟩, ?_⟩
      · have := tab_len tab0
        rw [tabOf_len] at this
        exact sz_lt (by omega)
      rw [putK_new _ (tab_new tab0 nt)]
      refine ⟨es ++ [(t, need, gain)], _, _, _, _, rfl, ?_, ?_, upd_same, ?_, ?_, ?_⟩
      · intro c o nc hc
        rw [upd_ne (ne_of_none hc hd)]
        exact hb09 _ _ nc hc
      · have hp9' := (hp8.ex (Ex.new hp9 (o := .tup [.int need, .int gain])))
        obtain ⟨u, v, c, z, rest⟩ := hp9'.le (m := n + 8 * (i + 1)) (by omega)
        refine ⟨u, v, c, ?_, rest⟩
        rw [upd_ne nad]
        exact z
      · have vis : Ex (newIn H H0 d) (newIn H (upd (upd H8 p9 (.tup [.int need, .int gain])) d (.dK (kvs ++ [(Sum.inr t, V.ref p9)]))) d) := fun c o hc => by
          obtain ⟨c1, c2, c3⟩ := newIn_some hc
          rw [newIn_at c1 c2, upd_ne c2]
          have nca : c ≠ a := fun z => hp.some (z ▸ c1)
          have h8 := hb18 _ _ nca (hb1 _ _ nca c3)
          rw [upd_ne (fun z => by rw [z, hp9] at h8; cases h8)]
          exact h8
        unfold tabOf
        rw [List.map_append]
        refine paired_app (tab_same vis tab0) (.cons ⟨rfl, ?_⟩ .nil)
        refine .tup (xs := [.int need, .int gain]) (.inl (.inl ?_)) (.cons (.int _) (.cons (.int _) .nil))
        rw [newIn_at h9 n9d.symm, upd_ne n9d.symm]
        exact upd_same
      · rw [htk, List.map_append]
        exact sub0.append (List.Sublist.refl _)
      · intro l hl
        rcases List.mem_append.mp hl with h | h
        · exact ok0 l h
        · rw [List.mem_singleton.mp h]
          exact ⟨nd0, nd1, gn0, gn1⟩
    · rintro σ H0 ⟨es, kvs, o1, o2, o3, rfl, hb0, hp0, hd0, tab0, sub0, ok0⟩
      rw [List.length_map] at hp0 sub0
      rw [List.take_length] at sub0
      refine ⟨_, rfl, ?_⟩
      have hel := sub0.length_le
      rw [List.length_map] at hel
      exact q d es kvs H0 (t1.sublist sub0) (fun l hl => ⟨sub0.subset (List.mem_map.mpr ⟨l, hl, rfl⟩), ok0 l hl⟩) (by omega) hd hb0 (hp0.le (by omega)) hd0 tab0
end K10

set_option maxHeartbeats 4000000
/-! what the mirrors of k10 say of one another -/
namespace K10
open PySem PySem.Spec PyProof.Rows L2 Evl VG

/-! ### the order of names -/
theorem str_ext {x y : Str} (h : x.cps.toList = y.cps.toList) : x = y := by
  cases x
  cases y
  simp at h
  rw [h]
theorem rising_asc : ∀ (r : List Str) (x : Str), risingS x r = true → (x :: r).Nodup → ascS (x :: r)
  | [], x, _, _ => fun i a b h1 h2 => by
    have := (List.getElem?_eq_some_iff.mp h2).1
    simp at this
  | y :: r, x, h, nd => by
    have h : ltCps y.cps.toList x.cps.toList = false ∧ risingS y r = true := by
      simpa [risingS] using h
    have ih := rising_asc r y h.2 (List.nodup_cons.mp nd).2
    intro i a b h1 h2
    cases i with
    | zero =>
      have h1 : x = a := by simpa using h1
      have h2 : y = b := by simpa using h2
      subst h1
      subst h2
      have n := h.1
      rw [ltCps_eq, decide_eq_false_iff_not] at n
      rcases List.le_iff_lt_or_eq.mp (List.not_lt.mp n) with h | h
      · exact h
      · exact absurd (str_ext h) (fun z => (List.nodup_cons.mp nd).1 (z ▸ List.mem_cons_self ..))
    | succ i =>
      exact ih i a b (by simpa using h1) (by simpa using h2)
theorem sorted_asc {ts : List Str} (h : sortedS ts = true) (nd : ts.Nodup) : ascS ts := by
  cases ts with
  | nil => exact fun i a b h1 _ => by simp at h1
  | cons x r => exact rising_asc r x h nd
theorem asc_pw {ts : List Str} (h : ascS ts) : ts.Pairwise fun x y => x.cps.toList < y.cps.toList := by
  rw [List.pairwise_iff_getElem]
  intro i j hi hj hij
  exact asc_lt h hij (List.getElem?_eq_getElem hi) (List.getElem?_eq_getElem hj)
theorem perm_pw {α : Type} {R : α → α → Prop} (irr : ∀ a b, R a b → R b a → False) : ∀ {l m : List α}, l.Perm m → l.Pairwise R → m.Pairwise R → l = m
  | [], m, p, _, _ => (List.nil_perm.mp p).symm
  | a :: l, [], p, _, _ => absurd p.symm (by simp)
  | a :: l, b :: m, p, h1, h2 => by
    have h1 := List.pairwise_cons.mp h1
    have h2 := List.pairwise_cons.mp h2
    have e : a = b := by
      have ha : a ∈ b :: m := p.mem_iff.mp (List.mem_cons_self ..)
      have hb : b ∈ a :: l := p.mem_iff.mpr (List.mem_cons_self ..)
      rcases List.mem_cons.mp ha with h | h
      · exact h
      · rcases List.mem_cons.mp hb with h' | h'
        · exact h'.symm
        · exact (irr _ _ (h1.1 _ h') (h2.1 _ h)).elim
    subst e
    rw [perm_pw irr ((List.perm_cons a).mp p) h1.2 h2.2]
theorem asc_uniq {x y : Tr} (p : x.Perm y) (h1 : ascS (x.map (·.1))) (h2 : ascS (y.map (·.1))) : x = y := by
  refine perm_pw (R := fun a b => a.1.cps.toList < b.1.cps.toList) (fun a b h g => ?_) p ?_ ?_
  · exact List.lt_irrefl _ (List.lt_trans h g)
  · have q := asc_pw h1
    rw [List.pairwise_map] at q
    exact q
  · have q := asc_pw h2
    rw [List.pairwise_map] at q
    exact q
theorem asc_nd {ts : List Str} (h : ascS ts) : ts.Nodup := (asc_pw h).imp fun {a b} h z => by
  subst z
  exact List.lt_irrefl _ h

/-! ### looking up -/
theorem look_cons (l : Line) (tr : Tr) (t : Str) : look (l :: tr) t = if t = l.1 then l.2 else look tr t := by
  obtain ⟨s, n, g⟩ := l
  unfold look
  rw [List.lookup_cons]
  by_cases h : t = s
  · subst h
    rw [if_pos rfl, show (t == t) = true from beq_self_eq_true t]
    rfl
  · rw [if_neg h, beq_eq_false_iff_ne.mpr h]
theorem look_mem : ∀ {tr : Tr}, (tr.map (·.1)).Nodup → ∀ {l : Line}, l ∈ tr → look tr l.1 = l.2
  | [], _, _, h => absurd h List.not_mem_nil
  | x :: tr, nd, l, h => by
    have nd := List.nodup_cons.mp (show ((x.1) :: tr.map (·.1)).Nodup from nd)
    rw [look_cons]
    rcases List.mem_cons.mp h with h | h
    · rw [h, if_pos rfl]
    · have n : ¬ l.1 = x.1 := fun z => nd.1 (by
        rw [← z]
        exact List.mem_map.mpr ⟨l, h, rfl⟩)
      rw [if_neg n, look_mem nd.2 h]
theorem look_no : ∀ {tr : Tr} {t : Str}, t ∉ tr.map (·.1) → look tr t = (0, 0)
  | [], _, _ => rfl
  | x :: tr, t, h => by
    have n : ¬ t = x.1 := fun z => h (by
      rw [z]
      exact List.mem_cons_self ..)
    rw [look_cons, if_neg n, look_no (fun z => h (List.mem_cons_of_mem _ z))]
theorem look_perm {x y : Tr} (p : x.Perm y) (nd : (y.map (·.1)).Nodup) (t : Str) : look x t = look y t := by
  have pm : (x.map (·.1)).Perm (y.map (·.1)) := p.map _
  by_cases h : t ∈ y.map (·.1)
  · obtain ⟨l, hl, rfl⟩ := List.mem_map.mp h
    rw [look_mem nd hl, look_mem (pm.nodup_iff.mpr nd) (p.mem_iff.mpr hl)]
  · rw [look_no h, look_no (fun z => h (pm.mem_iff.mp z))]
def backS (s : Stp) : Stp := (s.1 + s.2, -s.2)
theorem look_back : ∀ (tr : Tr) (t : Str), look (tr.map backL) t = backS (look tr t)
  | [], _ => rfl
  | x :: tr, t => by
    rw [List.map_cons, look_cons, look_cons]
    show (if t = x.1 then _ else _) = _
    by_cases h : t = x.1
    · rw [if_pos h, if_pos h]
      rfl
    · rw [if_neg h, if_neg h, look_back tr t]
theorem steps_perm {x y : Tr} (p : x.Perm y) (nd : (y.map (·.1)).Nodup) (ts : List Str) : stepsOf x ts = stepsOf y ts := List.map_congr_left fun t _ => look_perm p nd t
theorem steps_back (tr : Tr) (ts : List Str) : stepsOf (tr.map backL) ts = (stepsOf tr ts).map backS := by
  unfold stepsOf
  rw [List.map_map]
  exact List.map_congr_left fun t _ => look_back tr t
theorem keys_back (tr : Tr) : (tr.map backL).map (·.1) = tr.map (·.1) := by
  rw [List.map_map]
  rfl
theorem back_back (tr : Tr) : (tr.map backL).map backL = tr := by
  rw [List.map_map]
  conv => rhs; rw [← List.map_id tr]
  refine List.map_congr_left fun l _ => ?_
  obtain ⟨t, n, g⟩ := l
  show (t, n + g + -g, - -g) = (t, n, g)
  rw [show n + g + -g = n by omega, Int.neg_neg]
theorem back_ok {tr : Tr} (h : tradeOk tr) : tradeOk (tr.map backL) := by
  refine ⟨by rw [List.length_map]; exact h.1, fun l hl => ?_, by rw [keys_back]; exact h.2.2⟩
  obtain ⟨x, hx, rfl⟩ := List.mem_map.mp hl
  obtain ⟨h1, h2, h3, h4, h5⟩ := h.2.1 x hx
  exact ⟨h1, h4, h5, by show 0 ≤ x.2.1 + x.2.2 + -x.2.2; omega, by show x.2.1 + x.2.2 + -x.2.2 ≤ 9999; omega⟩
/-- steps as they are told -/
def stpOk (s : Stp) : Prop := 0 ≤ s.1 ∧ s.1 ≤ 9999 ∧ 0 ≤ s.1 + s.2 ∧ s.1 + s.2 ≤ 9999
theorem look_ok : ∀ {tr : Tr}, (∀ l ∈ tr, lineOk l) → ∀ t, stpOk (look tr t)
  | [], _, _ => by
    show stpOk (0, 0)
    exact ⟨by decide, by decide, by decide, by decide⟩
  | x :: tr, h, t => by
    rw [look_cons]
    split
    · exact (h x (List.mem_cons_self ..)).2
    · exact look_ok (fun l hl => h l (List.mem_cons_of_mem _ hl)) t
theorem steps_ok {tr : Tr} (h : tradeOk tr) (ts : List Str) : ∀ s ∈ stepsOf tr ts, stpOk s := fun s hs => by
  obtain ⟨t, _, rfl⟩ := List.mem_map.mp hs
  exact look_ok h.2.1 t

/-! ### the least stock -/
/-- all that is needed is at hand with z -/
def okZ (z : Int) : Int → List Stp → Prop
  | _, [] => True
  | ri, (n, g) :: r => n - ri ≤ z ∧ okZ z (ri + g) r
theorem least_iff : ∀ (sts : List Stp) (lo ri z : Int), leastM lo ri sts ≤ z ↔ lo ≤ z ∧ okZ z ri sts
  | [], lo, ri, z => by simp [leastM, okZ]
  | (n, g) :: r, lo, ri, z => by
    show leastM (if n - ri > lo then n - ri else lo) (ri + g) r ≤ z ↔ lo ≤ z ∧ n - ri ≤ z ∧ okZ z (ri + g) r
    rw [least_iff r]
    split <;> constructor <;> intro h <;> refine ⟨?_, ?_⟩ <;> first | omega | exact h.2 | exact h.2.2 | exact ⟨by omega, h.2⟩
theorem okZ_app {z : Int} : ∀ (xs ys : List Stp) (ri : Int), okZ z ri (xs ++ ys) ↔ okZ z ri xs ∧ okZ z (ri + netM xs) ys
  | [], ys, ri => by
    show okZ z ri ys ↔ True ∧ okZ z (ri + 0) ys
    rw [Int.add_zero, true_and]
  | (n, g) :: xs, ys, ri => by
    show (n - ri ≤ z ∧ okZ z (ri + g) (xs ++ ys)) ↔ (n - ri ≤ z ∧ okZ z (ri + g) xs) ∧ okZ z (ri + netM ((n, g) :: xs)) ys
    rw [okZ_app xs ys (ri + g), show netM ((n, g) :: xs) = g + netM xs from rfl, Int.add_assoc, and_assoc]
theorem okZ_shift : ∀ (xs : List Stp) (z ri c : Int), okZ z ri xs ↔ okZ (z + c) (ri - c) xs
  | [], z, ri, c => Iff.rfl
  | (n, g) :: xs, z, ri, c => by
    show (n - ri ≤ z ∧ okZ z (ri + g) xs) ↔ (n - (ri - c) ≤ z + c ∧ okZ (z + c) (ri - c + g) xs)
    rw [okZ_shift xs z (ri + g) c, show ri + g - c = ri - c + g by omega, show (n - ri ≤ z) ↔ (n - (ri - c) ≤ z + c) from ⟨fun h => by omega, fun h => by omega⟩]
theorem net_app (xs ys : List Stp) : netM (xs ++ ys) = netM xs + netM ys := by
  unfold netM
  rw [List.map_append, List.sum_append]
theorem net_back : ∀ xs : List Stp, netM (xs.map backS) = -netM xs
  | [] => rfl
  | (n, g) :: xs => by
    show -g + netM (xs.map backS) = -(g + netM xs)
    rw [net_back xs]
    omega
theorem net_rev (xs : List Stp) : netM xs.reverse = netM xs := by
  induction xs with
  | nil => rfl
  | cons s r ih =>
    rw [List.reverse_cons, net_app, ih]
    show netM r + (s.2 + 0) = s.2 + netM r
    omega
theorem okZ_rev : ∀ (xs : List Stp) (z ri : Int), okZ z ri (xs.map backS).reverse ↔ okZ (z + ri - netM xs) 0 xs
  | [], z, ri => Iff.rfl
  | (n, g) :: xs, z, ri => by
    rw [List.map_cons, List.reverse_cons, okZ_app, okZ_rev xs z ri, net_rev, net_back]
    show (_ ∧ (n + g - (ri + -netM xs) ≤ z ∧ True)) ↔ (n - 0 ≤ z + ri - (g + netM xs) ∧ okZ (z + ri - (g + netM xs)) (0 + g) xs)
    rw [okZ_shift xs (z + ri - (g + netM xs)) (0 + g) g, show z + ri - (g + netM xs) + g = z + ri - netM xs by omega, show 0 + g - g = 0 by omega]
    constructor
    · intro h
      exact ⟨by omega, h.1⟩
    · intro h
      exact ⟨h.2, by omega, trivial⟩
theorem okZ_end : ∀ {xs : List Stp} {z ri : Int}, xs ≠ [] → (∀ s ∈ xs, stpOk s) → okZ z ri xs → 0 ≤ z + ri + netM xs
  | [], _, _, h, _, _ => absurd rfl h
  | [(n, g)], z, ri, _, h, o => by
    have h := (h (n, g) (List.mem_cons_self ..)).2.2.1
    have o := o.1
    show 0 ≤ z + ri + (g + 0)
    have h : 0 ≤ n + g := h
    omega
  | (n, g) :: y :: xs, z, ri, _, h, o => by
    have := okZ_end (xs := y :: xs) (z := z) (ri := ri + g) (by simp) (fun s hs => h s (List.mem_cons_of_mem _ hs)) o.2
    show 0 ≤ z + ri + (g + netM (y :: xs))
    omega
theorem least_rev {sts : List Stp} (h : ∀ s ∈ sts, stpOk s) : leastM 0 0 (sts.map backS).reverse = leastM 0 0 sts + netM sts := by
  have key : ∀ z, leastM 0 0 (sts.map backS).reverse ≤ z ↔ leastM 0 0 sts + netM sts ≤ z := fun z => by
    have e : leastM 0 0 sts + netM sts ≤ z ↔ leastM 0 0 sts ≤ z - netM sts := ⟨fun h => by omega, fun h => by omega⟩
    rw [e, least_iff, least_iff, okZ_rev, Int.add_zero]
    cases sts with
    | nil =>
      show (0 ≤ z ∧ True) ↔ (0 ≤ z - 0 ∧ True)
      rw [Int.sub_zero]
    | cons s r =>
      have h1 := (h s (List.mem_cons_self ..)).1
      constructor
      · intro q
        have := q.2.1
        exact ⟨by omega, q.2⟩
      · intro q
        have := okZ_end (by simp) h q.2
        exact ⟨by omega, q.2⟩
  have a := (key _).mpr (Int.le_refl _)
  have b := (key _).mp (Int.le_refl _)
  omega
theorem least_nonneg (sts : List Stp) : 0 ≤ leastM 0 0 sts := ((least_iff sts 0 0 _).mp (Int.le_refl _)).1
theorem least_le : ∀ (sts : List Stp) (lo ri M : Int), (∀ s ∈ sts, stpOk s) → lo ≤ M → -ri + 10000 * (sts.length : Int) ≤ M → leastM lo ri sts ≤ M
  | [], lo, ri, M, _, h, _ => h
  | (n, g) :: r, lo, ri, M, h, h1, h2 => by
    have hs := h (n, g) (List.mem_cons_self ..)
    have a1 : 0 ≤ n := hs.1
    have a2 : n ≤ 9999 := hs.2.1
    have a3 : 0 ≤ n + g := hs.2.2.1
    rw [List.length_cons] at h2
    refine least_le r _ _ M (fun s hs => h s (List.mem_cons_of_mem _ hs)) ?_ ?_
    · split <;> omega
    · omega
theorem net_le : ∀ (sts : List Stp), (∀ s ∈ sts, stpOk s) → -(10000 * (sts.length : Int)) ≤ netM sts ∧ netM sts ≤ 10000 * (sts.length : Int)
  | [], _ => by
    show _ ≤ (0 : Int) ∧ (0 : Int) ≤ _
    simp
  | (n, g) :: r, h => by
    have hs := h (n, g) (List.mem_cons_self ..)
    have a1 : 0 ≤ n := hs.1
    have a2 : n ≤ 9999 := hs.2.1
    have a3 : 0 ≤ n + g := hs.2.2.1
    have a4 : n + g ≤ 9999 := hs.2.2.2
    have ih := net_le r (fun s hs => h s (List.mem_cons_of_mem _ hs))
    rw [List.length_cons]
    show _ ≤ g + netM r ∧ g + netM r ≤ _
    omega
/-! ### the levels -/
theorem levels_len : ∀ (sts : List Stp) (s : Int), (levelsM s sts).length ≤ sts.length + 1
  | [], s => by show 1 ≤ 0 + 1; decide
  | (n, g) :: r, s => by
    rw [levelsM_cons]
    split
    · show 1 ≤ _
      rw [List.length_cons]
      omega
    · rw [List.length_cons, List.length_cons]
      have := levels_len r (s + g)
      omega
theorem levels_pos : ∀ (sts : List Stp) (s : Int), 1 ≤ (levelsM s sts).length
  | [], s => by show 1 ≤ 1; decide
  | (n, g) :: r, s => by
    rw [levelsM_cons]
    split
    · show 1 ≤ 1
      decide
    · rw [List.length_cons]
      omega
theorem levels_all : ∀ (sts : List Stp) (s ri : Int), (levelsM (s + ri) sts).length = sts.length + 1 ↔ okZ s ri sts
  | [], s, ri => by
    show (1 = 0 + 1) ↔ True
    simp
  | (n, g) :: r, s, ri => by
    rw [levelsM_cons]
    show _ ↔ (n - ri ≤ s ∧ okZ s (ri + g) r)
    by_cases h : s + ri < n
    · rw [if_pos h]
      constructor
      · intro q
        exfalso
        have q : 1 = (r.length + 1) + 1 := q
        omega
      · intro q
        omega
    · rw [if_neg h, List.length_cons, List.length_cons, ← levels_all r s (ri + g), Int.add_assoc]
      constructor
      · intro q
        exact ⟨by omega, by omega⟩
      · intro q
        omega
theorem levels_due (sts : List Stp) {s : Int} (h : 0 ≤ s) : (levelsM s sts).length = sts.length + 1 ↔ leastM 0 0 sts ≤ s := by
  have := levels_all sts s 0
  rw [Int.add_zero] at this
  rw [this, least_iff]
  exact ⟨fun q => ⟨h, q⟩, fun q => q.2⟩
theorem levels_mild : ∀ (sts : List Stp) (s : Int), (∀ x ∈ sts, stpOk x) → ∀ z ∈ levelsM s sts, s - 10000 * (sts.length : Int) ≤ z ∧ z ≤ s + 10000 * (sts.length : Int)
  | [], s, _, z, hz => by
    have : z = s := by simpa [levelsM] using hz
    subst this
    simp
  | (n, g) :: r, s, h, z, hz => by
    have hs := h (n, g) (List.mem_cons_self ..)
    have a1 : 0 ≤ n := hs.1
    have a2 : n ≤ 9999 := hs.2.1
    have a3 : 0 ≤ n + g := hs.2.2.1
    have a4 : n + g ≤ 9999 := hs.2.2.2
    rw [List.length_cons]
    rw [levelsM_cons] at hz
    split at hz
    · have : z = s := by simpa using hz
      subst this
      omega
    · rcases List.mem_cons.mp hz with e | hz
      · subst e
        omega
      · have := levels_mild r (s + g) (fun x hx => h x (List.mem_cons_of_mem _ hx)) z hz
        omega
/-! ### short reprs -/
theorem mild_ints : ∀ {ns : List Int}, (∀ n ∈ ns, n.natAbs < 10 ^ 30) → mildAll (ns.map .int) = true
  | [], _ => rfl
  | n :: ns, h => by
    rw [List.map_cons]
    show (mild (.int n) && mildAll (ns.map .int)) = true
    rw [mild_ints fun m hm => h m (List.mem_cons_of_mem _ hm), Bool.and_true]
    show decide (n.natAbs < 10 ^ 30) = true
    exact decide_eq_true (h n (List.mem_cons_self ..))
theorem nodes_ints : ∀ (ns : List Int), nodesAll (ns.map .int) = ns.length
  | [] => rfl
  | n :: ns => by
    rw [List.map_cons, List.length_cons]
    show 1 + nodesAll (ns.map .int) = _
    rw [nodes_ints ns]
    omega
theorem mild_name {z : Str} (h : nameOk z) : mild (.str z) = true := by
  simp only [mild, Bool.and_eq_true, decide_eq_true_eq, List.all_eq_true]
  have h2 : z.cps.size ≤ 8 := h.2.1
  refine ⟨by omega, fun c hc => ?_⟩
  obtain ⟨i, hi⟩ := List.mem_iff_getElem?.mp hc
  rw [Array.getElem?_toList] at hi
  have := (h.2.2 i c hi).2
  omega
theorem mild_line {l : Line} (h : lineOk l) : mild (lineD l) = true := by
  obtain ⟨h1, h2, h3, h4, h5⟩ := h
  show (mild (.str l.1) && (mild (.int l.2.1) && (mild (.int l.2.2) && true))) = true
  rw [mild_name h1]
  show (true && (decide (l.2.1.natAbs < 10 ^ 30) && (decide (l.2.2.natAbs < 10 ^ 30) && true))) = true
  rw [decide_eq_true (show l.2.1.natAbs < 10 ^ 30 by omega), decide_eq_true (show l.2.2.natAbs < 10 ^ 30 by omega)]
  rfl
theorem mild_trade : ∀ {tr : Tr}, (∀ l ∈ tr, lineOk l) → mildAll (tr.map lineD) = true
  | [], _ => rfl
  | l :: tr, h => by
    rw [List.map_cons]
    show (mild (lineD l) && mildAll (tr.map lineD)) = true
    rw [mild_line (h l (List.mem_cons_self ..)), mild_trade fun m hm => h m (List.mem_cons_of_mem _ hm)]
    rfl
theorem nodes_trade : ∀ (tr : Tr), nodesAll (tr.map lineD) = 4 * tr.length
  | [] => rfl
  | l :: tr => by
    rw [List.map_cons, List.length_cons]
    show 4 + nodesAll (tr.map lineD) = _
    rw [nodes_trade tr]
    omega
end K10

set_option maxHeartbeats 4000000
namespace K10
open PySem PySem.Spec PyProof.Rows L2 Evl VG
variable {P : Program} {w : World} {K : PySem.W.Frag} {mg : Str → Option Value} {base : Heap} {f : Addr} {fd : FuncData}
theorem op_catTK {X : Cx} (K : PySem.W.Frag) (h : X.K = K := by rfl) : OpR X (binaryOp .Add) (rCatT K) := h ▸ op_catT
theorem pi_listK {X : Cx} (K : PySem.W.Frag) {tg l : Expr} {tl : TE} (hl : PE X l tl) (h : X.K = K := by rfl) : PI X tg l (iList K tl) := h ▸ pi_list hl
theorem pi_tupK {X : Cx} (K : PySem.W.Frag) {tg l : Expr} {tl : TE} (hl : PE X l tl) (h : X.K = K := by rfl) : PI X tg l (iTup K tl) := h ▸ pi_tup hl
/-- a dict of a trade's lines -/
structure Dk (K : PySem.W.Frag) (Hv : Hp) (q : Addr) (es : Tr) : Prop where
  at_ : ∃ kvs, Hv q = some (.dK kvs) ∧ Tab K Hv kvs (tabOf es)
  nd : (es.map (·.1)).Nodup
  len : es.length ≤ 16
theorem tabOf_keys (es : Tr) : (tabOf es).map Prod.fst = es.map (·.1) := by
  unfold tabOf
  rw [List.map_map]
  rfl
theorem tabOf_look : ∀ {es : Tr}, (es.map (·.1)).Nodup → ∀ {l : Line}, l ∈ es → (tabOf es).lookup l.1 = some (stepD l.2)
  | [], _, _, h => absurd h List.not_mem_nil
  | x :: tr, nd, l, h => by
    have nd := List.nodup_cons.mp (show ((x.1) :: tr.map (·.1)).Nodup from nd)
    show ((x.1, stepD x.2) :: tabOf tr).lookup l.1 = _
    rw [List.lookup_cons]
    rcases List.mem_cons.mp h with h | h
    · subst h
      rw [show (l.1 == l.1) = true from beq_self_eq_true _]
    · have n : ¬ l.1 = x.1 := fun z => nd.1 (by
        rw [← z]
        exact List.mem_map.mpr ⟨l, h, rfl⟩)
      rw [beq_eq_false_iff_ne.mpr n]
      exact tabOf_look nd.2 h

/-! ### _law_trade_told -/
abbrev s_law_trade_told : Stmt := top 36
theorem sc_law_trade_told : FnScope ["_law_trade_here", "_law_task"] ["_law_trade_here"] (defScope s_law_trade_told) := ⟨rfl, rfl, rfl, by decide +kernel, rfl, by decide +kernel, by decide +kernel⟩
def spTold (K : PySem.W.Frag) : Sp := fun vs H Q _ => ∃ (Hv : Hp) (q : Addr) (es : Tr), vs = [.ref q] ∧ Ex Hv H ∧ Dk K Hv q es ∧
  ∀ tr v H2, tr.Perm es → ascS (tr.map (·.1)) → Ex H H2 → Dp K (hid Hv H H2) v (tradeD tr) → Q v H2
theorem ok_trade_told (F : Fun K "_law_trade_told" "_law_trade_told" s_law_trade_told f fd) (B : Bltn mg) :
    FnG P w K mg base CX0 1 f fd ["_law_trade_here"] (spTold K) := by
  refine okG F sc_law_trade_told (fun vs H Q E h => ?_) (fun cdv A outer s H vs Q E hcm hr h => ?_)
  · obtain ⟨_, _, _, rfl, _⟩ := h
    rfl
  · obtain ⟨Hv, p, es, rfl, e, ⟨⟨kvs, hp, tab⟩, nd, hl⟩, q⟩ := h
    have hu1 := hu_of hr
    refine ⟨_, (pss_one (ps_ret (pe_callTy call_tuple_of (by rfl) B.tuple bt_tuple (pa_cons (pe_lc (own := [(("_law_task" : Str), 1)])  rfl sc_law_trade_told.nd (pi_listK K (pe_callB (call_sortedD rfl) (by rfl) B.sorted bt_sorted (pa_cons (pv 0) pa_nil))) (blkOk_by (N := ["_law_trade_here", "_law_task"]) (sc := defScope s_law_trade_told) (by decide +kernel)) (fun _ _ _ _ _ => (pg_name (i := 1) sc_law_trade_told.nd rfl (Or.inl rfl))) (fun _ _ _ _ _ => pts_nil) (fun _ _ _ _ _ => (pe_op (op_catTK K) (pe_tup (pa_cons (pv 1) pa_nil)) (pe_dget hu1 (pv 0) (pv 1) (fun _ _ => rfl))))) pa_nil)))), ?_⟩
    refine ⟨_, rfl, p, kvs, es.map (·.1), rfl, .inl (e _ _ hp), ?_, ?_, fun ys l hperm hsort hl0 => ?_⟩
    · rw [tab_keys tab, tabOf_keys]
    · rw [List.length_map]
      omega
    · have nys : ys.Nodup := hperm.nodup_iff.mpr nd
      have hyl : ys.length = es.length := by rw [hperm.length_eq, List.length_map]
      have hlv : Hv l = none := ex_none e hl0
      let Hx : Hp := upd Hv l (.lst (ys.map V.str))
      have evx : Ex Hv Hx := Ex.new hlv
      have ex1 : Ex Hx (upd H l (.lst (ys.map V.str))) := fun b o hb => by
        by_cases z : b = l
        · rw [z, upd_same]
          rw [z] at hb
          exact (upd_same.symm.trans hb)
        · rw [upd_ne z]
          exact e _ _ ((upd_ne z).symm.trans hb)
      refine ⟨l, rfl, ⟨_, SqL.of upd_same⟩, fun D hD => ?_⟩
      refine lcD (K := K) (H := Hx) (Q := fun x H1 => ∃ p ys, [x] = [V.ref p] ∧ ((SqL K H1 p ys ∧ ∀ l, H1 l = none → Q (.ref l) (upd H1 l (.tup ys))) ∨ (SqT K H1 p ys ∧ Q (.ref p) H1))) (walk_list (K := K) (a := l) (xs := ys.map V.str)) (fun i => lineD (ys.getD i Str.empty, look es (ys.getD i Str.empty))) (by rw [List.length_map]; omega) ex1 (fun H' e' => SqL.of (e' _ _ upd_same)) ?_ hD fun v H3 e3 hv => ?_
      · rintro i x H' H'' hi e' ⟨rfl, hx⟩ Qg k
        rw [List.getElem?_map] at hx
        obtain ⟨t, ht, rfl⟩ := Option.map_eq_some_iff.mp hx
        have e5 : ys.getD i Str.empty = t := by
          rw [List.getD_eq_getElem?_getD, ht]
          rfl
        refine k _ _ rfl (Ex.refl _) ?_
        rw [e5]
        have ht2 : t ∈ es.map (·.1) := hperm.mem_iff.mp (List.mem_of_getElem? ht)
        obtain ⟨l', hl', rfl⟩ := List.mem_map.mp ht2
        have e6 : lineD (l'.1, look es l'.1) = .tuple ([.str l'.1] ++ [.int l'.2.1, .int l'.2.2]) := by
          rw [look_mem nd hl']
          rfl
        rw [e6]
        exact ed_catT (ed_tup (eda_cons (ed_var rfl (.str _)) eda_nil) (by show 1 ≤ 100000; decide)) (ed_dgetI rfl (evx _ _ hp) (tab_same evx tab) (ed_var rfl (.str _)) (tabOf_look nd hl')) (by simp) (by simp) (by show 3 ≤ 100000; decide)
      · rw [List.length_map, range_map_get ys (fun t => lineD (t, look es t)) Str.empty] at hv
        obtain ⟨a, xs, rfl, h1, h2⟩ := dp_lst hv
        refine ⟨a, xs, rfl, .inl ⟨ex_l hid_ex h1, fun r hr' => ?_⟩⟩
        have pm : (ys.map fun t => (t, look es t)).Perm es := by
          have q1 := hperm.map (fun t => ((t, look es t) : Line))
          rw [List.map_map] at q1
          have q2 : es.map ((fun t => ((t, look es t) : Line)) ∘ (·.1)) = es := by
            conv => rhs; rw [← List.map_id es]
            refine List.map_congr_left fun l' hl' => ?_
            show (l'.1, look es l'.1) = l'
            rw [look_mem nd hl']
          rw [q2] at q1
          exact q1
        have e03 : Ex H H3 := (Ex.new hl0).trans e3
        refine q (ys.map fun t => (t, look es t)) _ _ pm ?_ (e03.trans (Ex.new hr')) ?_
        · rw [List.map_map]
          have : (ys.map ((·.1) ∘ fun t => ((t, look es t) : Line))) = ys := List.map_id ys
          rw [this]
          exact sorted_asc hsort nys
        · unfold tradeD
          rw [List.map_map]
          refine .tup (.inl (.inl ((hid_new (ex_none e03 hr')).trans upd_same))) (dpAll_same (fun b o hb => ?_) h2)
          obtain ⟨g1, g2⟩ := hid_some hb
          refine (hid_see (fun z => ?_)).trans ((Ex.new hr') _ _ g1)
          by_cases z2 : b = l
          · rw [z2]
            exact hl0
          · have g3 := g2 ((upd_ne z2).trans z)
            exact (upd_ne z2).symm.trans g3
end K10

set_option maxHeartbeats 4000000
namespace K10
open PySem PySem.Spec PyProof.Rows L2 Evl VG
variable {P : Program} {w : World} {K : PySem.W.Frag} {mg : Str → Option Value} {base : Heap} {f : Addr} {fd : FuncData}
theorem ed_dk {σ : L2.St} {H : Hp} {i : Nat} {q : Addr} {es : Tr} {ty tx : TE} {t : Str} (hi : σ[i]? = some (some (.ref q))) (hd : Dk K H q es) (hy : EvD K ty σ H (.str t)) (hx : EvD K tx σ H (.tuple [.int 0, .int 0])) :
    EvD K (tDGet2 (tVar i) ty tx) σ H (stepD (look es t)) := by
  obtain ⟨kvs, hp, tab⟩ := hd.at_
  rw [← tab_look]
  exact ed_dget hi hp tab hy hx
theorem Dk.ex {H H' : Hp} {q : Addr} {es : Tr} (h : Dk K H q es) (e : Ex H H') : Dk K H' q es := by
  obtain ⟨kvs, hp, tab⟩ := h.at_
  exact ⟨⟨kvs, e _ _ hp, tab_same e tab⟩, h.nd, h.len⟩
theorem drop_look (es : Tr) {ts : List Str} {i : Nat} {t : Str} (h : ts[i]? = some t) : (stepsOf es ts).drop i = look es t :: (stepsOf es ts).drop (i + 1) := by
  have hi := (List.getElem?_eq_some_iff.mp h).1
  unfold stepsOf
  rw [← List.map_drop, ← List.map_drop, List.drop_eq_getElem_cons hi, List.map_cons]
  rw [List.getElem?_eq_getElem hi] at h
  rw [Option.some.inj h]

/-! ### _law_levels -/
abbrev s_law_levels : Stmt := top 37
theorem sc_law_levels : FnScope ["_law_trade_here", "_law_stock", "_law_tasks", "_law_found", "_law_task", "_law_need", "_law_gain"] ["_law_trade_here", "_law_stock", "_law_tasks"] (defScope s_law_levels) := ⟨rfl, rfl, rfl, by decide +kernel, rfl, by decide +kernel, by decide +kernel⟩
def spLevels (K : PySem.W.Frag) : Sp := fun vs H Q _ => ∃ (Hv : Hp) (q : Addr) (es : Tr) (z : Int) (v : V) (ts : List Str), vs = [.ref q, .int z, v] ∧ Ex Hv H ∧ Dk K Hv q es ∧ Dp K Hv v (.tuple (ts.map .str)) ∧ ts.length ≤ 100 ∧
  ∀ v H2, Ex H H2 → Dp K (hid Hv H H2) v (.tuple ((levelsM z (stepsOf es ts)).map .int)) → Q v H2
theorem ok_law_levels (F : Fun K "_law_levels" "_law_levels" s_law_levels f fd) (B : Bltn mg) : FnG P w K mg base CX0 1 f fd ["_law_trade_here", "_law_stock", "_law_tasks"] (spLevels K) := by
  refine okG F sc_law_levels (fun vs H Q E h => ?_) (fun cdv A outer s H vs Q E hcm hr h => ?_)
  · obtain ⟨_, _, _, _, _, _, rfl, _⟩ := h
    rfl
  · obtain ⟨Hv, q0, es, z0, v, ts, rfl, e, hdk, hv, hsz, q⟩ := h
    have hu1 := hu_of hr
    obtain ⟨a, xs, rfl, s1, s2⟩ := dp_tup hv
    have exs := vals_of_strs s2
    subst exs
    refine ⟨_, (pss_cons (ps_set (i := 3) sc_law_levels.nd rfl (Or.inl rfl) (pe_lst (pa_cons (pv 1) pa_nil)))
      (pss_cons (ps_for PassesOwn.never rfl (pi_tupK K (pv 2)) (pg_name (i := 4) sc_law_levels.nd rfl (Or.inl rfl)) (pss_cons (ps_asg (pe_dget2 hu1 (pv 0) (pv 4) (pe_tup (pa_cons pe_int (pa_cons pe_int pa_nil))) ⟨rfl, rfl, rfl, rfl⟩) (pg_tupK K (n := 2) rfl (pgs_cons (pg_name (i := 5) sc_law_levels.nd rfl (Or.inl rfl)) (pgs_cons (pg_name (i := 6) sc_law_levels.nd rfl (Or.inl rfl)) pgs_nil))))
      (pss_cons (ps_if (PW.pt (pw_and (pt_cmpR op_gt (pe_callB (call_lenK K) (by rfl) B.len bt_len (pa_cons (pv 3) pa_nil)) pe_int (nomark _)) (pw_and1 (pt_cmpR op_lt (pe_ix (ix_listK K) (pv 3) (pe_un un_neg pe_int) (fun _ _ => rfl)) (pv 5) (nomark _))))) (pss_one (ps_ret (pe_callTy call_tuple_of (by rfl) B.tuple bt_tuple (pa_cons (pv 3) pa_nil)))) pss_nil)
      (pss_one (ps_expr (pe_bm PySem.F.plainAttrs_list PySem.F.slot_list_append PySem.F.type_list_append mt_append (pv 3) (pa_cons (pe_op op_add (pe_ix (ix_listK K) (pv 3) (pe_un un_neg pe_int) (fun _ _ => rfl)) (pv 6)) pa_nil)))))))
      (pss_one (ps_ret (pe_callTy call_tuple_of (by rfl) B.tuple bt_tuple (pa_cons (pv 3) pa_nil)))))), ?_⟩
    refine ⟨_, rfl, by show 1 ≤ sizeLine; decide, fun p hp => ?_⟩
    refine ⟨_, rfl, a, rfl, ⟨_, sqT_same (e.trans (Ex.new hp)) s1⟩, ?_⟩
    refine for_tup (K := K) (a := a) (xs := ts.map V.str) (fun i σ H' => ∃ (o1 o2 o3 : Option V) (pre : List Int) (z : Int), σ = [some (.ref q0), some (.int z0), some (.ref a), some (.ref p), o1, o2, o3] ∧ Ex H H' ∧
        H' p = some (.lst ((pre ++ [z]).map V.int)) ∧ pre.length ≤ i ∧ pre ++ levelsM z ((stepsOf es ts).drop i) = levelsM z0 (stepsOf es ts))
      ⟨none, none, none, [], z0, rfl, Ex.new hp, upd_same, Nat.le_refl _, by rw [List.nil_append, List.drop_zero]⟩ (fun i σ H' _ ⟨_, _, _, _, _, _, e', _⟩ => sqT_same (e.trans e') s1) ?_ ?_
    · rintro i x σ H' hx ⟨o1, o2, o3, pre, z, rfl, e', hp', hpl, hm⟩
      rw [List.getElem?_map] at hx
      obtain ⟨t, ht, rfl⟩ := Option.map_eq_some_iff.mp hx
      have hi : i < ts.length := (List.getElem?_eq_some_iff.mp ht).1
      have hdrop := drop_look es ht
      rcases hlk : look es t with ⟨n, g⟩
      refine qs_asg (K := K) (H0 := Hv) (d := stepD (look es t)) (ed_dk rfl hdk (ed_var rfl (.str t)) (ed_tup (eda_cons ed_int (eda_cons ed_int eda_nil)) (by show 2 ≤ 100000; decide))) (e.trans e') fun v1 H1 e1 hv1 => ?_
      rw [hlk] at hv1
      obtain ⟨b, ys, rfl, u1, u2⟩ := dp_tup hv1
      obtain ⟨x1, x2, rfl, w1, w2⟩ := dp2 u2
      cases w1
      cases w2
      rw [hdrop, hlk, levelsM_cons] at hm
      have hp1 := e1 _ _ hp'
      refine ⟨b, _, rfl, sqT_same hid_ex u1, rfl, _, _, rfl, ?_⟩
      refine ⟨_, _, rfl, ?_⟩
      refine ⟨rfl, ?_⟩
      have hd1 : Dp K H1 (.ref p) (.list ((pre ++ [z]).map .int)) := .lst (.inl (.inl hp1)) (dpAll_ints _)
      refine qs_if (b := decide (z < n)) (et_is (a := decide (0 < (((pre ++ [z]).map PyData.int).length : Int)) && decide (z < n)) (et_and (etI_gt (ed_lenL (ed_var rfl hd1)) ed_int) fun _ =>
          etI_lt (K := K) (ed_of_int (ev_op (z := .int z) (ev_var rfl) (ev_int (K := K) (ed_neg (ed_int (i := 1)))) (rv_ixL (i := -1) (.inl (.inl hp1)) (last_at _ _)))) (ed_var rfl (.int n))) ?_) (Ex.refl _) (fun hc H2 e2 => ?_) (fun hc H2 e2 => ?_)
      · rw [List.length_map, List.length_append]
        rw [decide_eq_true (show (0 : Int) < ((pre.length + [z].length : Nat) : Int) by show (0 : Int) < ((pre.length + 1 : Nat) : Int); omega), Bool.true_and]
      · have hc : z < n := of_decide_eq_true hc
        rw [if_pos hc] at hm
        refine ⟨_, rfl, p, _, rfl, .inl ⟨SqL.of (e2 _ _ hp1), fun l hl => ?_⟩⟩
        refine q _ _ (((e'.trans e1).trans e2).trans (Ex.new hl)) ?_
        rw [← hm]
        exact .tup (.inl (.inl ((hid_new (ex_none ((e'.trans e1).trans e2) hl)).trans upd_same))) (dpAll_ints _)
      · have hc : ¬ z < n := of_decide_eq_false hc
        rw [if_neg hc] at hm
        have hp2 := e2 _ _ hp1
        refine ⟨_, rfl, .inl ⟨rfl, _, SqL.of hp2⟩, _, rfl, _, rfl, p, _, _, _, rfl, rfl, .inl (.inl hp2), last_at _ _, _, rfl, _, _, rfl, rfl, p, _, _, rfl, rfl, hp2, ?_, ?_⟩
        · rw [List.length_map, List.length_append]
          exact sz_lt (by show pre.length + 1 < 100000; omega)
        · refine ⟨_, _, _, pre ++ [z], z + g, rfl, ((e'.trans e1).trans e2).mut hp, ?_, ?_, ?_⟩
          · rw [upd_same, List.map_append (l₂ := [z + g])]
            rfl
          · rw [List.length_append]
            show pre.length + 1 ≤ i + 1
            omega
          · rw [List.append_assoc]
            exact hm
    · rintro σ H' ⟨o1, o2, o3, pre, z, rfl, e', hp', hpl, hm⟩
      rw [List.length_map, ← stepsOf_len es ts, List.drop_length] at hm
      refine ⟨_, rfl, p, _, rfl, .inl ⟨SqL.of hp', fun l hl => ?_⟩⟩
      refine q _ _ (e'.trans (Ex.new hl)) ?_
      rw [← hm]
      exact .tup (.inl (.inl ((hid_new (ex_none e' hl)).trans upd_same))) (dpAll_ints _)

/-! ### _law_least -/
abbrev s_law_least : Stmt := top 38
theorem sc_law_least : FnScope ["_law_trade_here", "_law_tasks", "_law_task", "_law_low_end", "_law_gone", "_law_need", "_law_gain"] ["_law_trade_here", "_law_tasks"] (defScope s_law_least) := ⟨rfl, rfl, rfl, by decide +kernel, rfl, by decide +kernel, by decide +kernel⟩
def spLeast (K : PySem.W.Frag) : Sp := fun vs H Q _ => ∃ (Hv : Hp) (q : Addr) (es : Tr) (v : V) (ts : List Str), vs = [.ref q, v] ∧ Ex Hv H ∧ Dk K Hv q es ∧ Dp K Hv v (.tuple (ts.map .str)) ∧ ts.length ≤ 100 ∧
  ∀ H2, Ex H H2 → Q (.int (leastM 0 0 (stepsOf es ts))) H2
theorem ok_law_least (F : Fun K "_law_least" "_law_least" s_law_least f fd) (B : Bltn mg) : FnG P w K mg base CX0 1 f fd ["_law_trade_here", "_law_tasks"] (spLeast K) := by
  refine okG F sc_law_least (fun vs H Q E h => ?_) (fun cdv A outer s H vs Q E hcm hr h => ?_)
  · obtain ⟨_, _, _, _, _, rfl, _⟩ := h
    rfl
  · obtain ⟨Hv, q0, es, v, ts, rfl, e, hdk, hv, hsz, q⟩ := h
    have hu1 := hu_of hr
    obtain ⟨a, xs, rfl, s1, s2⟩ := dp_tup hv
    have exs := vals_of_strs s2
    subst exs
    refine ⟨_, (pss_cons (ps_asg (pe_tup (pa_cons pe_int (pa_cons pe_int pa_nil))) (pg_tupK K (n := 2) rfl (pgs_cons (pg_name (i := 3) sc_law_least.nd rfl (Or.inl rfl)) (pgs_cons (pg_name (i := 4) sc_law_least.nd rfl (Or.inl rfl)) pgs_nil))))
      (pss_cons (ps_for PassesOwn.never rfl (pi_tupK K (pv 1)) (pg_name (i := 2) sc_law_least.nd rfl (Or.inl rfl)) (pss_cons (ps_asg (pe_dget2 hu1 (pv 0) (pv 2) (pe_tup (pa_cons pe_int (pa_cons pe_int pa_nil))) ⟨rfl, rfl, rfl, rfl⟩) (pg_tupK K (n := 2) rfl (pgs_cons (pg_name (i := 5) sc_law_least.nd rfl (Or.inl rfl)) (pgs_cons (pg_name (i := 6) sc_law_least.nd rfl (Or.inl rfl)) pgs_nil))))
      (pss_one (ps_par (i := 3) (j := 4) rfl sc_law_least.nd rfl rfl (by decide) rfl rfl (pa_cons (pe_callB (call_max2 rfl) (by rfl) B.max bt_max (pa_cons (pv 3) (pa_cons (pe_op op_sub (pv 5) (pv 4)) pa_nil))) (pa_cons (pe_op op_add (pv 4) (pv 6)) pa_nil)) rfl))))
      (pss_one (ps_ret (pv 3))))), ?_⟩
    refine ⟨by show 2 ≤ sizeLine; decide, fun p0 hp0 => ?_⟩
    refine ⟨p0, _, rfl, .inl (.inl upd_same), rfl, _, _, rfl, ?_⟩
    refine ⟨_, _, rfl, ?_⟩
    refine ⟨rfl, ?_⟩
    refine ⟨_, rfl, a, rfl, ⟨_, sqT_same (e.trans (Ex.new hp0)) s1⟩, ?_⟩
    refine for_tup (K := K) (a := a) (xs := ts.map V.str) (fun i σ H' => ∃ (o1 o2 o3 : Option V) (lo ri : Int), σ = [some (.ref q0), some (.ref a), o1, some (.int lo), some (.int ri), o2, o3] ∧ Ex H H' ∧
        leastM lo ri ((stepsOf es ts).drop i) = leastM 0 0 (stepsOf es ts))
      ⟨none, none, none, 0, 0, rfl, Ex.new hp0, by rw [List.drop_zero]⟩ (fun i σ H' _ ⟨_, _, _, _, _, _, e', _⟩ => sqT_same (e.trans e') s1) ?_ ?_
    · rintro i x σ H' hx ⟨o1, o2, o3, lo, ri, rfl, e', hm⟩
      rw [List.getElem?_map] at hx
      obtain ⟨t, ht, rfl⟩ := Option.map_eq_some_iff.mp hx
      have hi : i < ts.length := (List.getElem?_eq_some_iff.mp ht).1
      have hdrop := drop_look es ht
      rcases hlk : look es t with ⟨n, g⟩
      refine qs_asg (K := K) (H0 := Hv) (d := stepD (look es t)) (ed_dk rfl hdk (ed_var rfl (.str t)) (ed_tup (eda_cons ed_int (eda_cons ed_int eda_nil)) (by show 2 ≤ 100000; decide))) (e.trans e') fun v1 H1 e1 hv1 => ?_
      rw [hlk] at hv1
      obtain ⟨b, ys, rfl, u1, u2⟩ := dp_tup hv1
      obtain ⟨x1, x2, rfl, w1, w2⟩ := dp2 u2
      cases w1
      cases w2
      rw [hdrop, hlk] at hm
      refine ⟨b, _, rfl, sqT_same hid_ex u1, rfl, _, _, rfl, ?_⟩
      refine ⟨_, _, rfl, ?_⟩
      refine ⟨rfl, ?_⟩
      refine ⟨_, rfl, _, rfl, _, rfl, _, _, rfl, rfl, _, _, rfl, ?_⟩
      refine ⟨_, rfl, _, rfl, _, _, rfl, rfl, ?_⟩
      refine ⟨_, _, rfl, ?_⟩
      exact ⟨_, _, _, _, _, rfl, e'.trans e1, hm⟩
    · rintro σ H' ⟨o1, o2, o3, lo, ri, rfl, e', hm⟩
      rw [List.length_map, ← stepsOf_len es ts, List.drop_length] at hm
      refine ⟨_, rfl, ?_⟩
      rw [show lo = leastM 0 0 (stepsOf es ts) from hm]
      exact q H' e'
end K10

set_option maxHeartbeats 4000000
namespace K10
open PySem PySem.Spec PyProof.Rows L2 Evl VG
variable {P : Program} {w : World} {K : PySem.W.Frag} {mg : Str → Option Value} {base : Heap} {f : Addr} {fd : FuncData}
theorem paired_ix {α β : Type} {F : α → β → Prop} : ∀ {a : List α} {b : List β}, Paired F a b → ∀ {i : Nat} {x : α}, a[i]? = some x → ∃ y, b[i]? = some y ∧ F x y
  | _, _, .nil, i, x, h => by simp at h
  | _, _, .cons h t, 0, x, e => by
    simp at e
    subst e
    exact ⟨_, rfl, h⟩
  | _, _, .cons h t, i + 1, x, e => by
    obtain ⟨y, h1, h2⟩ := paired_ix t (i := i) (x := x) (by simpa using e)
    exact ⟨y, by simpa using h1, h2⟩

theorem go_cb1 {r : List V → Hp → VK → Prop} {te : TE} {σ : L2.St} {H : Hp} {Q : VK} (h : te σ H fun x H1 => r [x] H1 Q) : tCB r (tCons te tNil) σ H Q := h
theorem go_ret {te : TE} {D : Ends} {σ : L2.St} {H : Hp} (h : te σ H D.rt) : tRet te D σ H := h
theorem go_set {te : TE} {i : Nat} {D : Ends} {σ : L2.St} {H : Hp} (h : te σ H fun v H1 => D.nx (σ.set i (some v)) H1) : tAsg te (gName i) D σ H := h

/-! ### _law_back -/
abbrev s_law_back : Stmt := top 39
theorem sc_law_back : FnScope ["_law_trade_here", "_law_task", "_law_need", "_law_gain"] ["_law_trade_here"] (defScope s_law_back) := ⟨rfl, rfl, rfl, by decide +kernel, rfl, by decide +kernel, by decide +kernel⟩
def spBack (K : PySem.W.Frag) : Sp := fun vs H Q _ => ∃ (Hv : Hp) (q : Addr) (es : Tr), vs = [.ref q] ∧ Ex Hv H ∧ Dk K Hv q es ∧
  ∀ p H2, H p = none → Ex H H2 → Dk K (hid Hv H H2) p (es.map backL) → Q (.ref p) H2
theorem ok_law_back (F : Fun K "_law_back" "_law_back" s_law_back f fd) (B : Bltn mg) : FnG P w K mg base CX0 1 f fd ["_law_trade_here"] (spBack K) := by
  refine okG F sc_law_back (fun vs H Q E h => ?_) (fun cdv A outer s H vs Q E hcm hr h => ?_)
  · obtain ⟨_, _, _, rfl, _⟩ := h
    rfl
  · obtain ⟨Hv, q0, es, rfl, e, hdk, q⟩ := h
    obtain ⟨kvs, hp, tab⟩ := hdk.at_
    have nd := hdk.nd
    have len := hdk.len
    have hkl : kvs.length = es.length := by rw [tab_len tab, tabOf_len]
    refine ⟨_, (pss_one (ps_lock (ps_ret (pe_callTy (call_dictP rfl) (by rfl) B.dict bt_dict (pa_cons (pe_lc (own := [(("_law_task" : Str), 1), (("_law_need" : Str), 2), (("_law_gain" : Str), 3)])  rfl sc_law_back.nd (pi_items (pv 0)) (blkOk_by (N := ["_law_trade_here", "_law_task", "_law_need", "_law_gain"]) (sc := defScope s_law_back) (by decide +kernel)) (fun _ _ _ _ _ => (pg_tupK K (n := 2) rfl (pgs_cons (pg_name (i := 1) sc_law_back.nd rfl (Or.inl rfl)) (pgs_cons (pg_tupK K (n := 2) rfl (pgs_cons (pg_name (i := 2) sc_law_back.nd rfl (Or.inl rfl)) (pgs_cons (pg_name (i := 3) sc_law_back.nd rfl (Or.inl rfl)) pgs_nil))) pgs_nil)))) (fun _ _ _ _ _ => pts_nil) (fun _ _ _ _ _ => (pe_tup (pa_cons (pv 1) (pa_cons (pe_tup (pa_cons (pe_op op_add (pv 2) (pv 3)) (pa_cons (pe_un un_neg (pv 3)) pa_nil))) pa_nil))))) pa_nil))))), ?_⟩
    refine ⟨q0, .dK kvs, e _ _ hp, trivial, fun od => ?_⟩
    have evx : Ex (sans q0 Hv) (upd Hv q0 (.frz od (.dK kvs))) := fun b o hb => by
      have nb : b ≠ q0 := fun z => by
        rw [z, sans_none] at hb
        cases hb
      rw [upd_ne nb]
      exact (sans_at nb).symm.trans hb
    have exx : Ex (upd Hv q0 (.frz od (.dK kvs))) (upd H q0 (.frz od (.dK kvs))) := fun b o hb => by
      by_cases z : b = q0
      · rw [z, upd_same] at hb ⊢
        exact hb
      · rw [upd_ne z] at hb ⊢
        exact e _ _ hb
    have tabx := tab_same evx (tab_sans (NoSq.dK hp) tab)
    refine go_ret (go_cb1 ?_)
    refine lc_items (K := K) (Hx := upd Hv q0 (.frz od (.dK kvs))) rfl upd_same exx (fun _ => true) (fun j => pairD ((tabOf (es.map backL)).getD j (Str.empty, .none))) (by omega) ?_ fun v H2 e2 hd => ?_
    · intro j k v T H' hj e' hT Qg kk
      obtain ⟨⟨t, d⟩, hy, hk, hv⟩ := paired_ix tabx hj
      unfold tabOf at hy
      rw [List.getElem?_map] at hy
      obtain ⟨⟨t', n, gg⟩, hl, hz⟩ := Option.map_eq_some_iff.mp hy
      cases hz
      have hk : k = Sum.inr t' := hk
      subst hk
      obtain ⟨b, ys, rfl, u1, u2⟩ := dp_tup hv
      obtain ⟨x1, x2, rfl, w1, w2⟩ := dp2 u2
      cases w1
      cases w2
      refine ⟨T, _, rfl, .inl (.inl upd_same), rfl, _, _, rfl, ?_⟩
      refine ⟨_, _, rfl, ?_⟩
      refine ⟨b, _, rfl, sqT_same (e'.trans (Ex.new hT)) u1, rfl, ?_⟩
      refine ⟨_, _, rfl, _, _, rfl, ?_⟩
      refine ⟨rfl, ?_⟩
      refine ⟨rfl, ?_⟩
      refine kk _ _ ?_ (Ex.new hT) et_yes fun _ => ?_
      · rfl
      have e5 : (tabOf (es.map backL)).getD j (Str.empty, .none) = (t', .tuple [.int (n + gg), .int (-gg)]) := by
        unfold tabOf
        rw [List.map_map, List.getD_eq_getElem?_getD, List.getElem?_map, hl]
        rfl
      rw [e5]
      exact ed_tup (eda_cons (ed_var rfl (.str _)) (eda_cons (ed_tup (eda_cons (ed_I0 (g := fun i j => i + j) (ed_var rfl (.int _)) (ed_var rfl (.int _))) (eda_cons (ed_neg (ed_var rfl (.int _))) eda_nil)) (by show 2 ≤ 100000; decide)) eda_nil)) (by show 2 ≤ 100000; decide)
    · have hl2 : kvs.length = (tabOf (es.map backL)).length := by rw [tabOf_len, List.length_map, hkl]
      rw [List.filter_eq_self.mpr (fun _ _ => rfl), hl2, range_map_get] at hd
      obtain ⟨a, ps, kvs', h1, h2, h3, h4⟩ := un_dict hp e (by rw [tabOf_keys, keys_back]; exact nd) e2 hd
      refine ⟨a, ps, kvs', h1, h2, h3, fun p hpp => ?_⟩
      obtain ⟨g1, g2, g3, g4, g5⟩ := h4 p hpp
      exact ⟨g1, q p _ g2 g3 ⟨⟨kvs', (hid_new g2).trans g4, g5⟩, by rw [keys_back]; exact nd, by rw [List.length_map]; exact len⟩⟩
end K10

set_option maxHeartbeats 4000000
namespace K10
open PySem PySem.Spec PyProof.Rows L2 Evl VG
section
variable {K : PySem.W.Frag} {σ : L2.St} {H : Hp} {ta tb te : TE}
theorem op_neDK {X : Cx} (K : PySem.W.Frag) (hu : X.A.units + 200 < cLine) (h : X.K = K := by rfl) : OpR X (compareOp .NotEq) (rNeD K) := h ▸ op_neD (by omega)
theorem pe_revTK {X : Cx} (K : PySem.W.Frag) {e : Expr} {te : TE} {k : Nat} {p1 p2 p3 pos : Pos} (he : PE X e te) (h : X.K = K := by rfl) :
    PE X (.Subscript e (.Slice none none (some (.UnaryOp .USub (.Constant (.int 1) k p1) p2)) p3) pos) (tRevT K te) := h ▸ pe_revT he
theorem ed_neB {x y : Bool} (ha : EvD K ta σ H (.bool x)) (hb : EvD K tb σ H (.bool y)) : EvD K (tOp rNe ta tb) σ H (.bool (!decide (x = y))) := by
  refine ed_of_bool (ev_is (ev_op (ev_bool ha) (ev_bool hb) (rv_ne rfl)) ?_)
  by_cases h : x = y
  · subst h
    rw [decide_eq_true rfl, decide_eq_true rfl]
  · rw [decide_eq_false h, decide_eq_false fun q => h (V.bl.inj q)]
/-- the same text twice -/
theorem et_neSame {x : Str} (ha : EvD K ta σ H (.str x)) (hb : EvD K tb σ H (.str x)) : EvT (tTest (tOp rNe ta tb)) σ H false :=
  et_is (et_bool (ed_neS ha hb)) (by rw [decide_eq_true rfl]; rfl)
theorem range_filter_get {α β : Type} (xs : List α) (p : α → Bool) (g : α → β) (z : α) :
    ((List.range xs.length).filter fun i => p (xs.getD i z)).map (fun i => g (xs.getD i z)) = (xs.filter p).map g := by
  have h := range_map_get xs (fun x => x) z
  rw [List.map_id'] at h
  conv => rhs; rw [← h]
  rw [List.filter_map, List.map_map]
  rfl
theorem ed_lawLeast {q : Addr} {es : Tr} {v : V} {ts : List Str} {i j : Nat} (hi : σ[i]? = some (some (.ref q))) (hd : Dk K H q es) (hj : σ[j]? = some (some v)) (hv : Dp K H v (.tuple (ts.map .str))) (hl : ts.length ≤ 100) :
    EvD K (tCall (spLeast K) [] E0 (tCons (tVar i) (tCons (tVar j) tNil))) σ H (.int (leastM 0 0 (stepsOf es ts))) := fun H1 e Q k =>
  ⟨_, hi, _, hj, H, q, es, v, ts, rfl, e, hd, hv, hl, fun H2 e2 => k _ H2 e2 (.int _)⟩
theorem ed_lawLevels {q : Addr} {es : Tr} {v : V} {ts : List Str} {i j l : Nat} {z : Int} (hi : σ[i]? = some (some (.ref q))) (hd : Dk K H q es) (hl : σ[l]? = some (some (.int z))) (hj : σ[j]? = some (some v)) (hv : Dp K H v (.tuple (ts.map .str))) (hle : ts.length ≤ 100) :
    EvD K (tCall (spLevels K) [] E0 (tCons (tVar i) (tCons (tVar l) (tCons (tVar j) tNil)))) σ H (.tuple ((levelsM z (stepsOf es ts)).map .int)) := fun H1 e Q k =>
  ⟨_, hi, _, hl, _, hj, H, q, es, z, v, ts, rfl, e, hd, hv, hle, fun v H2 e2 hw => k v H2 e2 hw⟩
/-- the trade told back, told by the law -/
theorem ed_lawBack {q : Addr} {es tr : Tr} {i : Nat} (hi : σ[i]? = some (some (.ref q))) (hd : Dk K H q es) (pm : tr.Perm es) (asc : ascS (tr.map (·.1))) :
    EvD K (tCall (spTold K) [] E0 (tCons (tCall (spBack K) [] E0 (tCons (tVar i) tNil)) tNil)) σ H (tradeD (tr.map backL)) := fun H1 e Q k =>
  ⟨_, hi, H, q, es, rfl, e, hd, fun p H2 hp e2 dk => ⟨hid H H1 H2, p, es.map backL, rfl, hid_ex, dk, fun tr' v H3 pm' asc' e3 hv => by
    have e : tr' = tr.map backL := asc_uniq (pm'.trans (pm.map backL).symm) asc' (by rw [keys_back]; exact asc)
    rw [e] at hv
    exact k v H3 (e2.trans e3) (dp_same (hid_two e2) hv)⟩⟩
/-- the sum of what the tasks give -/
theorem ed_lawGone {q : Addr} {es : Tr} {v : V} {ts : List Str} {i j l : Nat} {vs : List Nat} (hi : (wipe σ vs)[i]? = some (some (.ref q))) (hd : Dk K H q es) (hj : σ[j]? = some (some v)) (hv : Dp K H v (.tuple (ts.map .str))) (hle : ts.length ≤ 100)
    (hw : ∀ x, wipe ((wipe σ vs).set l (some x)) vs = wipe σ vs) (hl : ∀ x, ((wipe σ vs).set l (some x))[l]? = some (some x)) (hil : i ≠ l) :
    EvD K (tCB (rSum K) (tCons (tLc (iTup K (tVar j)) (gName l) tYes (tOp (rIxT K) (tDGet2 (tVar i) (tVar l) (tTup (tCons (tC (.int 0)) (tCons (tC (.int 0)) tNil)))) (tC (.int 1))) vs) tNil)) σ H (.int (netM (stepsOf es ts))) := by
  refine ed_sum (ns := (stepsOf es ts).map (·.2)) ?_
  unfold stepsOf
  rw [List.map_map, List.map_map]
  rw [← range_map_get ts ((PyData.int ∘ fun x => x.2) ∘ look es) Str.empty]
  have hl2 : ts.length = (ts.map PyData.str).length := (List.length_map _).symm
  rw [hl2]
  refine ed_lcT _ (ed_var hj hv) (by rw [← hl2]; omega) ?_
  intro m x dx H' hdx e1 hx H'' e2 Qg k
  rw [List.getElem?_map] at hdx
  obtain ⟨t, hst, rfl⟩ := Option.map_eq_some_iff.mp hdx
  cases hx
  have e3 : ts.getD m Str.empty = t := by
    rw [List.getD_eq_getElem?_getD, hst]
    rfl
  refine k _ _ (hw _) (Ex.refl _) ?_
  rw [e3]
  refine ed_ixT (k := 1) (ds := [.int (look es t).1, .int (look es t).2]) (ed_dk (t := t) ?_ (hd.ex e1) (ed_var (hl _) (.str t)) (ed_tup (eda_cons ed_int (eda_cons ed_int eda_nil)) (by show 2 ≤ 100000; decide))) ed_int rfl
  rw [List.getElem?_set_ne (fun z => hil z.symm)]
  exact hi
theorem qs_par {D : Ends} {u : TS} {ta : TA} {i j : Nat} {x y : Int} {H0 : Hp} (h : EvDA K ta σ H0 [.int x, .int y]) (e : Ex H0 H) (k : ∀ H1, Ex H H1 → u D ((σ.set i (some (.int x))).set j (some (.int y))) H1) : tSeq (tPar i j ta) u D σ H := h H e _ fun vs H1 e1 hvs => by
  obtain ⟨v, w, rfl, h1, h2⟩ := dp2 hvs
  cases h1
  cases h2
  exact ⟨_, _, rfl, k H1 e1⟩
theorem qs_setD {D : Ends} {u : TS} {i : Nat} {H0 : Hp} {d : PyData} (h : EvD K te σ H0 d) (e : Ex H0 H) (k : ∀ v H1, Ex H H1 → Dp K (hid H0 H H1) v d → u D (σ.set i (some v)) H1) : tSeq (tAsg te (gName i)) u D σ H := h H e _ k
theorem depth_line (l : Line) : (lineD l).depth ≤ 10 := by
  show PyData.depth (.tuple [.str l.1, .int l.2.1, .int l.2.2]) ≤ 10
  simp only [PyData.depth, PyData.depthAll]
  omega
theorem depth_lines : ∀ tr : Tr, PyData.depthAll (tr.map lineD) ≤ 10
  | [] => by simp only [List.map_nil, PyData.depthAll]; omega
  | l :: tr => by
    have h1 := depth_line l
    have h2 := depth_lines tr
    rw [List.map_cons]
    simp only [PyData.depthAll]
    omega
theorem depth_trade (tr : Tr) : (tradeD tr).depth ≤ 64 := by
  have := depth_lines tr
  show PyData.depth (.tuple (tr.map lineD)) ≤ 64
  simp only [PyData.depth]
  omega
theorem mild_tradeD {tr : Tr} (h : tradeOk tr) : mild (tradeD tr) = true := mild_trade h.2.1
theorem stepsOf_rev (tr : Tr) (ts : List Str) : stepsOf tr ts.reverse = (stepsOf tr ts).reverse := by
  unfold stepsOf
  rw [List.map_reverse]
theorem tasksOk_rev {ts : List Str} (h : tasksOk ts) : tasksOk ts.reverse :=
  ⟨fun t ht => h.1 t (List.mem_reverse.mp ht), (List.reverse_perm ts).nodup_iff.mpr h.2.1, by rw [List.length_reverse]; exact h.2.2⟩
end
end K10

set_option maxHeartbeats 1000000
namespace K10
open PySem PySem.Spec PyProof.Rows L2 Evl VG
variable {P : Program} {w : World} {K : PySem.W.Frag} {mg : Str → Option Value} {base : Heap} {f : Addr} {fd : FuncData}
theorem s_not {σ : L2.St} {Hv H : Hp} {c : TT} {t : TS} {D : Ends} (h : EvT c σ Hv false) (e : Ex Hv H) (k : ∀ H2, Ex H H2 → D.nx σ H2) :
    tIfS c t tNext D σ H := h H e _ fun H2 e2 => iteF (k H2 e2)
/-! ### _law_right -/
abbrev s_law_right : Stmt := top 40
theorem sc_law_right : FnScope ["_law_pot_here", "_law_names_here", "_law_trade_here", "_law_told", "_law_tasks", "_law_stock", "_law_due", "_law_gone", "_law_row", "_law_task"] ["_law_pot_here"] (defScope s_law_right) := ⟨rfl, rfl, rfl, by decide +kernel, rfl, by decide +kernel, by decide +kernel⟩
def spRight : Sp := fun vs H Q _ => ∃ (a : Addr) (n : Nat), vs = [.ref a] ∧ Pot a n H ∧ n + 300 ≤ 1000000 ∧ ∀ H', But a H H' → Pot a (n + 300) H' → Q (.bl true) H'
theorem ok_right (F : Fun K "_law_right" "_law_right" s_law_right f fd) (B : Bltn mg) (D_law_names : Def P w K mg base 3 "_law_names" ["_law_pot_here", "_law_amount"] spNames)
    (D_law_trade : Def P w K mg base 3 "_law_trade" ["_law_pot_here", "_law_tasks", "_law_great"] (spTrade K)) (D_law_of : Def P w K mg base 2 "_law_of" ["_law_pot_here", "_law_some_here"] (spOne K))
    (D_law_trade_told : Def P w K mg base 1 "_law_trade_told" ["_law_trade_here"] (spTold K)) (D_law_some : Def P w K mg base 2 "_law_some" ["_law_pot_here", "_law_pool", "_law_amount"] (spSome K))
    (D_law_take : Def P w K mg base 1 "_law_take" ["_law_pot_here", "_law_upto"] spTake) (D_law_least : Def P w K mg base 1 "_law_least" ["_law_trade_here", "_law_tasks"] (spLeast K))
    (D_least : Def P w K mg base 6 "least" ["trade", "tasks"] (spOf K 2 okLeast)) (D_net : Def P w K mg base 6 "net" ["trade", "tasks"] (spOf K 2 okNet))
    (D_told_back : Def P w K mg base 5 "told_back" ["trade"] (spOf K 1 okBack)) (D_law_back : Def P w K mg base 1 "_law_back" ["_law_trade_here"] (spBack K))
    (D_levels : Def P w K mg base 6 "levels" ["trade", "stock", "tasks"] (spOf K 3 okLevels)) (D_law_levels : Def P w K mg base 1 "_law_levels" ["_law_trade_here", "_law_stock", "_law_tasks"] (spLevels K)) :
    FnG P w K mg base CX0 7 f fd ["_law_pot_here"] spRight := by
  refine okG F sc_law_right (fun vs H Q E h => ?_) (fun cdv A outer s H vs Q E hcm hr h => ?_)
  · obtain ⟨_, _, rfl, _⟩ := h
    rfl
  · obtain ⟨a, n, rfl, hp, hn, q⟩ := h
    have hu1 := hu_of hr
    have hu := room_depth hr
    refine ⟨_, (pss_cons (ps_set (i := 1) sc_law_right.nd rfl (Or.inl rfl) (pe_d D_law_names hcm hr (by decide) (by rfl) (pa_cons (pv 0) (pa_cons pe_int pa_nil))))
      (pss_cons (ps_set (i := 2) sc_law_right.nd rfl (Or.inr rfl) (pe_d D_law_trade hcm hr (by decide) (by rfl) (pa_cons (pv 0) (pa_cons (pv 1) (pa_cons (pe_d D_law_of hcm hr (by decide) (by rfl) (pa_cons (pv 0) (pa_cons (pe_lst (pa_cons pe_int (pa_cons pe_int (pa_cons pe_int pa_nil)))) pa_nil))) pa_nil)))))
      (pss_cons (ps_lock (ps_set (i := 2) sc_law_right.nd rfl (Or.inr rfl) (pe_callTy (call_dictP rfl) (by rfl) B.dict bt_dict (pa_cons (pe_lc (own := [(("_law_task" : Str), 9), (("_law_row" : Str), 8)])  rfl sc_law_right.nd (pi_items (pv 2)) (blkOk_by (N := ["_law_pot_here", "_law_names_here", "_law_trade_here", "_law_told", "_law_tasks", "_law_stock", "_law_due", "_law_gone", "_law_row", "_law_task"]) (sc := defScope s_law_right) (by decide +kernel)) (fun _ _ _ _ _ => (pg_tupK K (n := 2) rfl (pgs_cons (pg_name (i := 9) sc_law_right.nd rfl (Or.inl rfl)) (pgs_cons (pg_name (i := 8) sc_law_right.nd rfl (Or.inl rfl)) pgs_nil)))) (fun _ _ _ _ _ => (pts_one (pt_cmpR op_lt (pe_op op_add (pe_ix (ix_tupK K) (pv 8) pe_int (fun _ _ => rfl)) (pe_ix (ix_tupK K) (pv 8) pe_int (fun _ _ => rfl))) pe_int (nomark _)))) (fun _ _ _ _ _ => (pe_tup (pa_cons (pv 9) (pa_cons (pv 8) pa_nil))))) pa_nil))))
      (pss_cons (ps_set (i := 3) sc_law_right.nd rfl (Or.inl rfl) (pe_d D_law_trade_told hcm hr (by decide) (by rfl) (pa_cons (pv 2) pa_nil)))
      (pss_cons (ps_set (i := 4) sc_law_right.nd rfl (Or.inl rfl) (pe_callTy call_tuple_of (by rfl) B.tuple bt_tuple (pa_cons (pe_d D_law_some hcm hr (by decide) (by rfl) (pa_cons (pv 0) (pa_cons (pv 1) (pa_cons (pe_d D_law_take hcm hr (by decide) (by rfl) (pa_cons (pv 0) (pa_cons pe_int pa_nil))) pa_nil)))) pa_nil)))
      (pss_cons (ps_par (i := 6) (j := 7) rfl sc_law_right.nd rfl rfl (by decide) rfl rfl (pa_cons (pe_d D_law_least hcm hr (by decide) (by rfl) (pa_cons (pv 2) (pa_cons (pv 4) pa_nil))) (pa_cons (pe_callB (cr_sumK K rfl) (by rfl) B.sum bt_sum (pa_cons (pe_lc (own := [(("_law_task" : Str), 9)])  rfl sc_law_right.nd (pi_tupK K (pv 4)) (blkOk_by (N := ["_law_pot_here", "_law_names_here", "_law_trade_here", "_law_told", "_law_tasks", "_law_stock", "_law_due", "_law_gone", "_law_row", "_law_task"]) (sc := defScope s_law_right) (by decide +kernel)) (fun _ _ _ _ _ => (pg_name (i := 9) sc_law_right.nd rfl (Or.inl rfl))) (fun _ _ _ _ _ => pts_nil) (fun _ _ _ _ _ => (pe_ix (ix_tupK K) (pe_dget2 hu1 (pv 2) (pv 9) (pe_tup (pa_cons pe_int (pa_cons pe_int pa_nil))) ⟨rfl, rfl, rfl, rfl⟩) pe_int (fun _ _ => rfl)))) pa_nil)) pa_nil)) rfl)
      (pss_cons (ps_if (pt_cmpR op_ne (pe_callB (call_reprD hcm hu) (by rfl) B.repr bt_repr (pa_cons (pe_tup (pa_cons (pe_d D_least hcm hr (by decide) (by rfl) (pa_cons (pv 3) (pa_cons (pv 4) pa_nil))) (pa_cons (pe_d D_net hcm hr (by decide) (by rfl) (pa_cons (pv 3) (pa_cons (pv 4) pa_nil))) pa_nil))) pa_nil)) (pe_callB (call_reprD hcm hu) (by rfl) B.repr bt_repr (pa_cons (pe_tup (pa_cons (pv 6) (pa_cons (pv 7) pa_nil))) pa_nil)) (nomark _)) (pss_one (ps_ret pe_bl)) pss_nil)
      (pss_cons (ps_if (PW.pt (pw_or (pt_cmpR op_ne (pe_callB (call_reprD hcm hu) (by rfl) B.repr bt_repr (pa_cons (pe_d D_told_back hcm hr (by decide) (by rfl) (pa_cons (pv 3) pa_nil)) pa_nil)) (pe_callB (call_reprD hcm hu) (by rfl) B.repr bt_repr (pa_cons (pe_d D_law_trade_told hcm hr (by decide) (by rfl) (pa_cons (pe_d D_law_back hcm hr (by decide) (by rfl) (pa_cons (pv 2) pa_nil)) pa_nil)) pa_nil)) (nomark _)) (pw_or1 (pt_cmpR (op_neDK K hu) (pe_d D_told_back hcm hr (by decide) (by rfl) (pa_cons (pe_d D_told_back hcm hr (by decide) (by rfl) (pa_cons (pv 3) pa_nil)) pa_nil)) (pv 3) (nomark _))))) (pss_one (ps_ret pe_bl)) pss_nil)
      (pss_cons (ps_for PassesOwn.never rfl (pi_list (pe_lst (pa_cons (pv 6) (pa_cons (pe_op op_add (pv 6) pe_int) (pa_cons (pe_callB (call_max2 rfl) (by rfl) B.max bt_max (pa_cons pe_int (pa_cons (pe_op op_sub (pv 6) pe_int) pa_nil))) (pa_cons pe_int (pa_cons pe_int (pa_cons (pe_op op_add (pv 6) (pe_d D_law_take hcm hr (by decide) (by rfl) (pa_cons (pv 0) (pa_cons pe_int pa_nil)))) pa_nil)))))))) (pg_name (i := 5) sc_law_right.nd rfl (Or.inl rfl)) (pss_cons (ps_if (pt_cmpR op_gt (pv 5) pe_int (nomark _)) (pss_one ps_continue) pss_nil)
      (pss_cons (ps_set (i := 8) sc_law_right.nd rfl (Or.inl rfl) (pe_d D_levels hcm hr (by decide) (by rfl) (pa_cons (pv 3) (pa_cons (pv 5) (pa_cons (pv 4) pa_nil)))))
      (pss_one (ps_if (PW.pt (pw_or (pt_cmpR op_ne (pe_callB (call_reprD hcm hu) (by rfl) B.repr bt_repr (pa_cons (pv 8) pa_nil)) (pe_callB (call_reprD hcm hu) (by rfl) B.repr bt_repr (pa_cons (pe_d D_law_levels hcm hr (by decide) (by rfl) (pa_cons (pv 2) (pa_cons (pv 5) (pa_cons (pv 4) pa_nil)))) pa_nil)) (nomark _)) (pw_or1 (pt_cmpR op_ne (pe_cmpR op_eq (pe_callB (call_lenK K) (by rfl) B.len bt_len (pa_cons (pv 8) pa_nil)) (pe_op op_add (pe_callB (call_lenK K) (by rfl) B.len bt_len (pa_cons (pv 4) pa_nil)) pe_int) (nomark _)) (pe_cmpR op_ge (pv 5) (pv 6) (nomark _)) (nomark _))))) (pss_one (ps_ret pe_bl)) pss_nil)))))
      (pss_one (ps_ret (pe_and (pe_cmpR op_eq (pe_d D_least hcm hr (by decide) (by rfl) (pa_cons (pe_d D_told_back hcm hr (by decide) (by rfl) (pa_cons (pv 3) pa_nil)) (pa_cons (pe_revTK K (pv 4)) pa_nil))) (pe_op op_add (pv 6) (pv 7)) (nomark _)) (pe_one (pe_cmpR op_eq (pe_d D_net hcm hr (by decide) (by rfl) (pa_cons (pe_d D_told_back hcm hr (by decide) (by rfl) (pa_cons (pv 3) pa_nil)) (pa_cons (pv 4) pa_nil))) (pe_un un_neg (pv 7)) (nomark _))))))))))))))), ?_⟩
    -- the names
    refine ⟨_, rfl, a, n, 16, rfl, hp, by omega, by decide, fun q1 us H1 u1 u2 u3 hq1 hb1 hp1 hqs1 => ?_⟩
    have n1a : q1 ≠ a := fun z => hp.some (z ▸ hq1)
    -- how great
    refine ⟨_, rfl, _, rfl, _, rfl, ?_⟩
    refine ⟨by show 3 ≤ sizeLine; decide, fun p2 hp2 => ?_⟩
    refine ⟨a, p2, n + 16, _, rfl, hp1.ex (Ex.new hp2), by omega, fun z => hp1.some (z ▸ hp2), .inl (.inl upd_same), (by show 0 < 3; decide), (by show 3 ≤ 1000; decide), fun v H3 hv hb3 hp3 => ?_⟩
    obtain ⟨G, rfl, g1, g2⟩ : ∃ G : Int, v = .int G ∧ 2 ≤ G ∧ G ≤ 9999 := by
      simp only [List.mem_cons, List.not_mem_nil, or_false] at hv
      rcases hv with h | h | h <;> rw [h] <;> exact ⟨_, rfl, by decide, by decide⟩
    have hb13 : But a H1 H3 := (But.ex (Ex.new hp2)).trans hb3
    -- the trade
    refine ⟨a, q1, n + 17, G, us, rfl, hp3, by omega, n1a, .inl (.inl (hb13 _ _ n1a hqs1)), u1, by omega, g1, g2, fun q3 es kvs H4 nd3 hes hel hq3 hb4 hp4 hd4 tab4 => ?_⟩
    have n3a : q3 ≠ a := fun z => hp3.some (z ▸ hq3)
    -- what is not too great
    let Hv : Hp := upd (newIn H3 H4 q3) q3 (.dK kvs)
    have hnq : newIn H3 H4 q3 q3 = none := if_neg fun z => z.2 rfl
    have evH : Ex Hv H4 := fun b o hb => by
      have hb : upd (newIn H3 H4 q3) q3 (.dK kvs) b = some o := hb
      by_cases z : b = q3
      · rw [z, upd_same] at hb
        rw [z, hd4]
        exact hb
      · rw [upd_ne z] at hb
        exact (newIn_some hb).2.2
    have hva : Hv a = none := by
      show upd (newIn H3 H4 q3) q3 (.dK kvs) a = none
      rw [upd_ne n3a.symm]
      cases hz : newIn H3 H4 q3 a with
      | none => rfl
      | some o => exact absurd (newIn_some hz).1 hp3.some
    have hvq : Hv q3 = some (.dK kvs) := upd_same
    have tabv : Tab K Hv kvs (tabOf es) := tab_same (Ex.new hnq) tab4
    clear_value Hv
    clear tab4
    refine ⟨q3, .dK kvs, hd4, trivial, fun od => ?_⟩
    have evx : Ex (sans q3 Hv) (upd Hv q3 (.frz od (.dK kvs))) := fun b o hb => by
      have nb : b ≠ q3 := fun z => by
        rw [z, sans_none] at hb
        cases hb
      rw [upd_ne nb]
      exact (sans_at nb).symm.trans hb
    have exx : Ex (upd Hv q3 (.frz od (.dK kvs))) (upd H4 q3 (.frz od (.dK kvs))) := fun b o hb => by
      by_cases z : b = q3
      · rw [z, upd_same] at hb ⊢
        exact hb
      · rw [upd_ne z] at hb ⊢
        exact evH _ _ hb
    have tabx := tab_same evx (tab_sans (NoSq.dK hvq) tabv)
    have hkl : kvs.length = es.length := by rw [tab_len tabv, tabOf_len]
    refine go_set (go_cb1 ?_)
    refine lc_items (K := K) (Hx := upd Hv q3 (.frz od (.dK kvs))) rfl upd_same exx (fun j => decide ((es.getD j (Str.empty, 0, 0)).2.1 + (es.getD j (Str.empty, 0, 0)).2.2 < 10000))
      (fun j => VG.pairD ((es.getD j (Str.empty, 0, 0)).1, .tuple [.int (es.getD j (Str.empty, 0, 0)).2.1, .int (es.getD j (Str.empty, 0, 0)).2.2])) (by omega) ?_ fun v H5 e5 hd5 => ?_
    · intro j k v T H' hj e' hT Qg kk
      obtain ⟨⟨t, d⟩, hy, hk, hv⟩ := paired_ix tabx hj
      unfold tabOf at hy
      rw [List.getElem?_map] at hy
      obtain ⟨l, hl, hz⟩ := Option.map_eq_some_iff.mp hy
      cases hz
      have hk : k = Sum.inr l.1 := hk
      subst hk
      have e5 : es.getD j (Str.empty, 0, 0) = l := by
        rw [List.getD_eq_getElem?_getD, hl]
        rfl
      refine ⟨T, _, rfl, .inl (.inl upd_same), rfl, _, _, rfl, ?_⟩
      refine ⟨_, _, rfl, ?_⟩
      refine ⟨rfl, ?_⟩
      rw [e5] at kk
      refine kk _ _ ?_ (Ex.new hT) ?_ fun _ => ?_
      · rfl
      · exact etI_lt (K := K) (ed_I0 (g := fun i j => i + j) (ed_ixT (k := 0) (ed_var rfl hv) ed_int rfl) (ed_ixT (k := 1) (ed_var rfl hv) ed_int rfl)) ed_int
      · exact ed_tup (eda_cons (ed_var rfl (.str _)) (eda_cons (ed_var rfl hv) eda_nil)) (by show 2 ≤ 100000; decide)
    · have nd5 : ((es.filter fun l => decide (l.2.1 + l.2.2 < 10000)).map (·.1)).Nodup := nd3.sublist (List.filter_sublist.map _)
      have hl5 : (es.filter fun l => decide (l.2.1 + l.2.2 < 10000)).length ≤ 16 := Nat.le_trans (List.length_filter_le _ _) hel
      have ok5 : ∀ l ∈ es.filter fun l => decide (l.2.1 + l.2.2 < 10000), lineOk l := fun l hl => by
        obtain ⟨h1, h2⟩ := List.mem_filter.mp hl
        have h2 : l.2.1 + l.2.2 < 10000 := of_decide_eq_true h2
        obtain ⟨h3, h4, h5, h6, h7⟩ := hes l h1
        exact ⟨pool_ok _ (u2 _ h3), h4, h5, h6, by omega⟩
      rw [hkl, range_filter_get es (fun l => decide (l.2.1 + l.2.2 < 10000)) (fun l => VG.pairD (l.1, .tuple [.int l.2.1, .int l.2.2])) (Str.empty, 0, 0)] at hd5
      generalize (es.filter fun l => decide (l.2.1 + l.2.2 < 10000)) = es5 at nd5 hl5 ok5 hd5
      have hd5 : Dp K (hid (upd Hv q3 (.frz od (.dK kvs))) (upd H4 q3 (.frz od (.dK kvs))) H5) v (.list ((tabOf es5).map VG.pairD)) := by
        unfold tabOf
        rw [List.map_map]
        exact hd5
      obtain ⟨a', ps, kvs5, h1, h2, h3, h4⟩ := un_dict hvq evH (by rw [tabOf_keys]; exact nd5) e5 hd5
      refine ⟨a', ps, kvs5, h1, h2, h3, fun p hpp => ?_⟩
      obtain ⟨k1, k2, k3, k4, k5⟩ := h4 p hpp
      refine ⟨k1, ?_⟩
      clear h1 h2 h3 h4 hd5 k1
      obtain ⟨H6, hH6⟩ : ∃ H6, H6 = upd (upd H5 p (.dK (mergeK [] kvs5))) q3 (.dK kvs) := ⟨_, rfl⟩
      rw [← hH6] at k3 k4 k5
      have dk6 : Dk K (hid Hv H4 H6) p es5 := ⟨⟨kvs5, (hid_new k2).trans k4, k5⟩, nd5, hl5⟩
      have hp6 := hp4.ex k3
      have hn6 : hid Hv H4 H6 a = none := hid_no hva hp4.some
      -- told
      refine ⟨_, rfl, hid Hv H4 H6, p, es5, rfl, by rw [← hH6]; exact hid_ex, dk6, fun tr vt H7 pm asc e7 dpt => ?_⟩
      rw [← hH6] at e7 dpt
      have hp7 := hp6.ex e7
      have hn7 : hid (hid Hv H4 H6) H6 H7 a = none := hid_no hn6 hp6.some
      -- the tasks
      refine ⟨_, rfl, _, rfl, _, rfl, a, n + 17 + 200, 11, rfl, hp7, by omega, by decide, by decide, fun r H8 r0 r1 hb8 hp8 => ?_⟩
      obtain ⟨m, rfl⟩ : ∃ m : Nat, r = (m : Int) := ⟨r.toNat, by omega⟩
      have hb18 : But a H1 H8 := (((hb13.trans hb4).trans (But.ex k3)).trans (But.ex e7)).trans hb8
      refine ⟨a, q1, n + 17 + 200 + 1, m, us, rfl, hp8, by omega, n1a, .inl (.inl (hb18 _ _ n1a hqs1)), u1, by omega, by omega, fun q9 ts H9 t1 t2 t3 hq9 hb9 hp9 hs9 => ?_⟩
      refine ⟨q9, _, rfl, .inl ⟨SqL.of hs9, fun l hl => ?_⟩⟩
      have hb7A : But a H7 (upd H9 l (.tup (ts.map V.str))) := (hb8.trans hb9).trans (But.ex (Ex.new hl))
      have hb6A : But a H6 (upd H9 l (.tup (ts.map V.str))) := (But.ex e7).trans hb7A
      have hbA : But a H (upd H9 l (.tup (ts.map V.str))) := (((hb1.trans hb13).trans hb4).trans (But.ex k3)).trans hb6A
      have nla : l ≠ a := fun z => hp9.some (z ▸ hl)
      have hpA := hp9.ex (Ex.new hl (o := .tup (ts.map V.str)))
      have f1 := dk6.ex (sans_of (hb6A.base hid_ex hn6) hn6)
      have f2 := dp_same (sans_of (hb7A.base hid_ex hn7) hn7) dpt
      have f3 : Dp K (sans a (upd H9 l (.tup (ts.map V.str)))) (.ref l) (.tuple (ts.map .str)) := .tup (.inl (.inl ((sans_at nla).trans upd_same))) (dpAll_strs ts)
      have f0 : Ex (sans a (upd H9 l (.tup (ts.map V.str)))) (upd H9 l (.tup (ts.map V.str))) := sans_ex
      have fa : sans a (upd H9 l (.tup (ts.map V.str))) a = none := sans_none
      obtain ⟨HA, hHA⟩ : ∃ HA, HA = upd H9 l (.tup (ts.map V.str)) := ⟨_, rfl⟩
      rw [← hHA] at hbA hpA f1 f2 f3 f0 fa
      obtain ⟨Hf, hHf⟩ : ∃ Hf, Hf = sans a HA := ⟨_, rfl⟩
      rw [← hHf] at f1 f2 f3 f0 fa
      have f0' : Ex Hf (upd H9 l (.tup (ts.map V.str))) := hHA ▸ f0
      have tok : tradeOk tr := ⟨by rw [pm.length_eq]; exact hl5, fun l hl => ok5 l (pm.mem_iff.mp hl), asc⟩
      have tsk : tasksOk ts := ⟨fun t ht => pool_ok _ (u2 _ (t2 t ht)), t1, by omega⟩
      have hst : stepsOf tr ts = stepsOf es5 ts := steps_perm pm nd5 ts
      have sok : ∀ s ∈ stepsOf es5 ts, stpOk s := hst ▸ steps_ok tok ts
      have htl : ts.length ≤ 10 := by omega
      have hsl : (stepsOf es5 ts).length ≤ 10 := by rw [stepsOf_len]; exact htl
      clear hHf dk6 dpt hb6A hb7A hb18 hp7 hp8 hp9 hp6 hn6 hn7 k3 k4 k5 e7 hs9 hb9 hb8 hH6 tabx tabv exx evx evH hva hvq hb4 hb13 hb3 hp4 hp3 hp1 hqs1 e5
      have dueL := least_nonneg (stepsOf es5 ts)
      have dueU : leastM 0 0 (stepsOf es5 ts) ≤ 100000 := least_le _ 0 0 100000 sok (by decide) (by omega)
      have goneB := net_le _ sok
      have hrev := least_rev sok
      -- due, gone
      refine qs_par (K := K) (H0 := Hf) (eda_cons (ed_lawLeast rfl f1 rfl f3 (by omega)) (eda_cons (ed_lawGone rfl f1 rfl f3 (by omega) (fun _ => rfl) (fun _ => rfl) (by decide)) eda_nil)) f0' fun H10 e10 => ?_
      generalize hdue : leastM 0 0 (stepsOf es5 ts) = due at dueL dueU hrev
      generalize hgone : netM (stepsOf es5 ts) = gone at goneB hrev
      have mdg : mildAll [.int due, .int gone] = true := by
        have := mild_ints (ns := [due, gone]) (fun z hz => by
          rcases List.mem_cons.mp hz with h | h
          · rw [h]; omega
          · rw [List.mem_singleton.mp h]; omega)
        exact this
      have eL : ∀ (σ : L2.St) (i j : Nat), σ[i]? = some (some vt) → σ[j]? = some (some (.ref l)) → EvD K (tCall (spOf K 2 okLeast) [] E0 (tCons (tVar i) (tCons (tVar j) tNil))) σ Hf (.int due) := fun σ i j hi hj =>
        ed_call (eda_cons (ed_var hi f2) (eda_cons (ed_var hj f3) eda_nil)) (spD_of (n := 2) (ok := okLeast) ⟨tr, ts, rfl, tok, tsk, by rw [hst, hdue]⟩)
      have eN : ∀ (σ : L2.St) (i j : Nat), σ[i]? = some (some vt) → σ[j]? = some (some (.ref l)) → EvD K (tCall (spOf K 2 okNet) [] E0 (tCons (tVar i) (tCons (tVar j) tNil))) σ Hf (.int gone) := fun σ i j hi hj =>
        ed_call (eda_cons (ed_var hi f2) (eda_cons (ed_var hj f3) eda_nil)) (spD_of (n := 2) (ok := okNet) ⟨tr, ts, rfl, tok, tsk, by rw [hst, hgone]⟩)
      have eB : ∀ (σ : L2.St) (i : Nat), σ[i]? = some (some vt) → EvD K (tCall (spOf K 1 okBack) [] E0 (tCons (tVar i) tNil)) σ Hf (tradeD (tr.map backL)) := fun σ i hi =>
        ed_call (eda_cons (ed_var hi f2) eda_nil) (spD_of (n := 1) (ok := okBack) ⟨tr, rfl, tok, rfl⟩)
      -- least and net
      refine q_not (K := K) (Hv := Hf) (et_neSame (ed_reprT (ed_tup (eda_cons (eL _ 3 4 rfl rfl) (eda_cons (eN _ 3 4 rfl rfl) eda_nil)) (by show 2 ≤ 100000; decide)) mdg (by show 2 ≤ 90; decide))
        (ed_reprT (ed_tup (eda_cons (ed_var rfl (.int due)) (eda_cons (ed_var rfl (.int gone)) eda_nil)) (by show 2 ≤ 100000; decide)) mdg (by show 2 ≤ 90; decide))) (f0'.trans e10) fun H11 e11 => ?_
      -- told back
      have bok := back_ok tok
      have mb : mildAll ((tr.map backL).map lineD) = true := mild_trade bok.2.1
      have nb : nodesAll ((tr.map backL).map lineD) ≤ 90 := by
        rw [nodes_trade]
        have := bok.1
        omega
      have eBB : ∀ (σ : L2.St) (i : Nat), σ[i]? = some (some vt) → EvD K (tCall (spOf K 1 okBack) [] E0 (tCons (tCall (spOf K 1 okBack) [] E0 (tCons (tVar i) tNil)) tNil)) σ Hf (tradeD tr) := fun σ i hi =>
        ed_call (eda_cons (eB σ i hi) eda_nil) (spD_of (n := 1) (ok := okBack) ⟨tr.map backL, rfl, bok, by rw [back_back]⟩)
      refine q_not (K := K) (Hv := Hf) (et_or (a := false) (b := false) (et_neSame (ed_reprT (eB _ 3 rfl) mb nb) (ed_reprT (ed_lawBack rfl f1 pm tok.2.2) mb nb)) fun _ => et_bool (ed_neSame (eBB _ 3 rfl) (ed_var rfl f2) (mild_tradeD tok) (depth_trade tr))) ((f0'.trans e10).trans e11) fun H12 e12 => ?_
      -- the stocks
      have e0C : Ex (upd H9 l (.tup (ts.map V.str))) H12 := (e10.trans e11).trans e12
      have hpC := (hHA ▸ hpA : Pot a _ (upd H9 l (.tup (ts.map V.str)))).ex e0C
      refine ⟨_, rfl, _, rfl, _, _, rfl, rfl, _, rfl, _, _, rfl, rfl, _, _, rfl, _, rfl, _, rfl, a, n + 17 + 200 + 1 + m, 30, rfl, hpC, by omega, by decide, by decide, fun r2 H13 r20 r21 hb13 hp13 => ?_⟩
      refine ⟨_, _, rfl, rfl, by show 6 ≤ sizeLine; decide, fun p14 hp14 => ?_⟩
      have fC : Ex Hf H13 := (hb13.base (f0'.trans e0C) fa)
      have hpD := hp13.ex (Ex.new hp14 (o := .lst [.int due, .int (due + 1), .int (if due - 1 > 0 then due - 1 else 0), .int 0, .int 99999, .int (due + r2)]))
      have hbD : But a H (upd H13 p14 (.lst [.int due, .int (due + 1), .int (if due - 1 > 0 then due - 1 else 0), .int 0, .int 99999, .int (due + r2)])) :=
        (((hHA ▸ hbA : But a H (upd H9 l (.tup (ts.map V.str)))).trans (But.ex e0C)).trans hb13).trans (But.ex (Ex.new hp14))
      refine ⟨p14, rfl, ⟨_, SqL.of upd_same⟩, ?_⟩
      have fD : Ex Hf (upd H13 p14 (.lst [.int due, .int (due + 1), .int (if due - 1 > 0 then due - 1 else 0), .int 0, .int 99999, .int (due + r2)])) := fC.trans (Ex.new hp14)
      refine for_list (K := K) (a := p14) (xs := [.int due, .int (due + 1), .int (if due - 1 > 0 then due - 1 else 0), .int 0, .int 99999, .int (due + r2)])
        (fun i σ H' => ∃ (o5 o8 : Option V), σ = [some (.ref a), some (.ref q1), some (.ref p), some vt, some (.ref l), o5, some (.int due), some (.int gone), o8, none] ∧ Ex (upd H13 p14 (.lst [.int due, .int (due + 1), .int (if due - 1 > 0 then due - 1 else 0), .int 0, .int 99999, .int (due + r2)])) H')
        ⟨none, none, rfl, Ex.refl _⟩ (fun i σ H' _ ⟨_, _, _, e'⟩ => SqL.of (e' _ _ upd_same)) ?_ ?_
      · rintro i x σ H' hx ⟨o5, o8, rfl, e'⟩
        obtain ⟨z, rfl, z0⟩ : ∃ z : Int, x = .int z ∧ 0 ≤ z := by
          have hm := List.mem_of_getElem? hx
          simp only [List.mem_cons, List.not_mem_nil, or_false] at hm
          rcases hm with h | h | h | h | h | h <;> rw [h] <;> refine ⟨_, rfl, ?_⟩
          · omega
          · omega
          · split <;> omega
          · omega
          · omega
          · omega
        have fE := fD.trans e'
        refine qs_if (b := decide (99999 < z)) (etI_gt (K := K) (H := Hf) (ed_var rfl (.int z)) ed_int) fE (fun hc H15 e15 => ?_) (fun hc H15 e15 => ?_)
        · exact ⟨_, _, rfl, e'.trans e15⟩
        · have hc : z ≤ 99999 := by
            have := of_decide_eq_false hc
            omega
          refine qs_setD (K := K) (H0 := Hf) (d := .tuple ((levelsM z (stepsOf tr ts)).map .int)) (ed_call (eda_cons (ed_var rfl f2) (eda_cons (ed_var rfl (.int z)) (eda_cons (ed_var rfl f3) eda_nil))) (spD_of (n := 3) (ok := okLevels) ⟨tr, z, ts, rfl, tok, z0, hc, tsk, rfl⟩)) (fE.trans e15) fun v16 H16 e16 hv16 => ?_
          rw [hst] at hv16
          have hfg : Ex Hf (hid Hf H15 H16) := hid_base (fE.trans e15) e16
          have mlv : mildAll ((levelsM z (stepsOf es5 ts)).map .int) = true := mild_ints fun y hy => by
            have := levels_mild _ z sok y hy
            omega
          have nlv : nodesAll ((levelsM z (stepsOf es5 ts)).map .int) ≤ 90 := by
            rw [nodes_ints]
            have := levels_len (stepsOf es5 ts) z
            omega
          have hdl := levels_due (stepsOf es5 ts) z0
          rw [hdue] at hdl
          refine s_not (Hv := hid Hf H15 H16) (et_or (a := false) (b := false) (et_neSame (ed_reprT (ed_var rfl hv16) mlv nlv) (ed_reprT (ed_lawLevels rfl (f1.ex hfg) rfl rfl (dp_same hfg f3) (by omega)) mlv nlv)) fun _ =>
            et_is (et_bool (ed_neB (ed_eqI (ed_len (ed_var rfl hv16)) (ed_I0 (g := fun i j => i + j) (ed_len (ed_var rfl (dp_same hfg f3))) ed_int)) (ed_B0 (g := fun i j => decide (j ≤ i)) (ed_var rfl (.int z)) (ed_var rfl (.int due))))) ?_) hid_ex fun H17 e17 => ?_
          · rw [List.length_map, List.length_map]
            rw [stepsOf_len] at hdl
            have : (decide (((levelsM z (stepsOf es5 ts)).length : Int) = (ts.length : Int) + 1)) = decide (due ≤ z) := by
              rw [decide_eq_decide, ← hdl]
              omega
            rw [this, decide_eq_true rfl]
            rfl
          · exact ⟨_, _, rfl, ((e'.trans e15).trans e16).trans e17⟩
      · rintro σ H' ⟨o5, o8, rfl, e'⟩
        refine qs_retB (K := K) (H0 := Hf) (z := true) (ed_isb ?_ (ed_and (b := true) (c := true) (ed_isb ?_ (ed_eqI (i := due + gone) (ed_call (eda_cons (eB _ 3 rfl) (eda_cons (ed_revT (ed_var rfl f3)) eda_nil)) (spD_of (n := 2) (ok := okLeast) ⟨tr.map backL, ts.reverse, ?_, bok, tasksOk_rev tsk, ?_⟩)) (ed_I0 (g := fun i j => i + j) (ed_var rfl (.int due)) (ed_var rfl (.int gone)))))
          fun _ => ed_isb ?_ (ed_eqI (i := -gone) (ed_call (eda_cons (eB _ 3 rfl) (eda_cons (ed_var rfl f3) eda_nil)) (spD_of (n := 2) (ok := okNet) ⟨tr.map backL, ts, rfl, bok, tsk, ?_⟩)) (ed_neg (ed_var rfl (.int gone)))))) (fD.trans e') fun H18 e18 => ?_
        · rfl
        · exact decide_eq_true rfl
        · rw [List.map_reverse]
        · rw [stepsOf_rev, steps_back, hst, hrev]
        · exact decide_eq_true rfl
        · rw [steps_back, net_back, hst, hgone]
        · exact q _ (hbD.trans (But.ex (e'.trans e18))) ((hpD.ex (e'.trans e18)).le (by omega))
end K10

set_option maxHeartbeats 1000000
namespace K10
open PySem PySem.Spec PyProof.Rows L2 Evl VG
variable {P : Program} {w : World} {K : PySem.W.Frag} {mg : Str → Option Value} {base : Heap} {f : Addr} {fd : FuncData}
/-! ### law -/
abbrev s_law : Stmt := top 41
theorem sc_law : FnScope ["_law_script", "_law_place", "_law_pot_here", "_law_lap"] ["_law_script"] (defScope s_law) := ⟨rfl, rfl, rfl, by decide +kernel, rfl, by decide +kernel, by decide +kernel⟩
def spLaw (K : PySem.W.Frag) : Sp := fun vs H Q _ => ∃ (a : Addr) (ns : List Int), vs = [.ref a] ∧ SqL K H a (ns.map V.int) ∧ ns.length ≤ 63 ∧ ∀ H', Ex H H' → Q (.bl true) H'
theorem ok_law (F : Fun K "law" "law" s_law f fd) (B : Bltn mg) (D_law_cells : Def P w K mg base 1 "_law_cells" ["_law_script", "_law_limit"] (spCells K))
    (D_law_pot : Def P w K mg base 1 "_law_pot" ["_law_script", "_law_place"] (spPot K)) (D_law_right : Def P w K mg base 7 "_law_right" ["_law_pot_here"] spRight) :
    FnG P w K mg base CX0 8 f fd ["_law_script"] (spLaw K) := by
  refine okG F sc_law (fun vs H Q E h => ?_) (fun cdv A outer s H vs Q E hcm hr h => ?_)
  · obtain ⟨_, _, rfl, _⟩ := h
    rfl
  · obtain ⟨a, ns, rfl, hS, hl, q⟩ := h
    refine ⟨_, (pss_cons (ps_for PassesOwn.never rfl (pi_list (pe_d D_law_cells hcm hr (by decide) (by rfl) (pa_cons (pv 0) (pa_cons pe_int pa_nil)))) (pg_name (i := 1) sc_law.nd rfl (Or.inl rfl)) (pss_cons (ps_set (i := 2) sc_law.nd rfl (Or.inr rfl) (pe_d D_law_pot hcm hr (by decide) (by rfl) (pa_cons (pv 0) (pa_cons (pv 1) pa_nil))))
      (pss_one (ps_if (pt_not (pt_val (pe_callB (cr_allK K rfl) (by rfl) B.all bt_all (pa_cons (pe_lc (own := [(("_law_lap" : Str), 3)])  rfl sc_law.nd (pi_range1 (by rfl) B.range (pa_cons pe_int pa_nil)) (blkOk_by (N := ["_law_script", "_law_place", "_law_pot_here", "_law_lap"]) (sc := defScope s_law) (by decide +kernel)) (fun _ _ _ _ _ => (pg_name (i := 3) sc_law.nd rfl (Or.inl rfl))) (fun _ _ _ _ _ => pts_nil) (fun _ _ _ _ _ => (pe_d D_law_right hcm hr (by decide) (by rfl) (pa_cons (pv 2) pa_nil)))) pa_nil)))) (pss_one (ps_ret pe_bl)) pss_nil))))
      (pss_one (ps_ret pe_bl))), ?_⟩
    refine ⟨_, rfl, a, ns, 4, rfl, hS, hl, by decide, by decide, fun c m H1 hm hc e1 hc1 => ?_⟩
    refine ⟨c, rfl, ⟨_, SqL.of hc1⟩, ?_⟩
    refine for_list (K := K) (a := c) (xs := (List.range m).map fun i => V.int ((i : Nat) : Int)) (fun i σ H' => ∃ (o1 o2 : Option V), σ = [some (.ref a), o1, o2, none] ∧ Ex H1 H')
      ⟨none, none, rfl, Ex.refl _⟩ (fun i σ H' _ ⟨_, _, _, e'⟩ => SqL.of (e' _ _ hc1)) ?_ ?_
    · rintro i x σ H' hx ⟨o1, o2, rfl, e'⟩
      rw [List.getElem?_map] at hx
      obtain ⟨j, hj, rfl⟩ := Option.map_eq_some_iff.mp hx
      have hjm : j < m := List.mem_range.mp (List.mem_of_getElem? hj)
      have e0 : Ex H H' := e1.trans e'
      refine ⟨_, rfl, _, rfl, a, ns, j, rfl, ex_l e0 hS, hl, by omega, fun p H2 hp e2 hp2 => ?_⟩
      have hpn : H p = none := ex_none e0 hp
      refine ⟨(8 : Int), rfl, by decide, by decide, fun D hD => ?_⟩
      have nDp : D ≠ p := fun z => hp2.some (z ▸ hD)
      refine lc_it (walk_range (lo := 0) (n := 8)) (D := D) (fun i H3 => Ex H' H3 ∧ Pot p (300 * i) H3 ∧ H3 D = some (.lst (List.replicate i (V.bl true)))) ⟨e2.trans (Ex.new hD), hp2.ex (Ex.new hD), upd_same⟩ (fun _ _ _ _ => trivial) ?_ ?_
      · rintro i x H3 H3' hi ⟨e3, p3, d3⟩ ⟨rfl, rfl⟩
        refine ⟨rfl, yes_go ?_⟩
        refine ⟨_, rfl, p, 300 * i, rfl, p3, by omega, fun H4 hb4 hp4 => ?_⟩
        have d4 := hb4 _ _ nDp d3
        refine ⟨_, d4, ?_, ?_, ?_, ?_⟩
        · rw [List.length_replicate]
          exact sz_lt (by omega)
        · exact (hb4.base e3 hp).mut (ex_none e2 hD)
        · obtain ⟨u, v, c', z, rest⟩ := hp4.le (m := 300 * (i + 1)) (by omega)
          exact ⟨u, v, c', (upd_ne nDp.symm).trans z, rest⟩
        · rw [upd_same, List.replicate_succ']
      · rintro H3 ⟨e3, p3, d3⟩
        refine ⟨D, List.replicate 8 true, rfl, SqL.of ?_, _, rfl, ?_⟩
        · rw [List.map_replicate]
          exact d3
        · exact iteF ⟨_, _, rfl, e'.trans e3⟩
    · rintro σ H' ⟨o1, o2, rfl, e'⟩
      exact q H' (e1.trans e')
end K10

set_option maxHeartbeats 1000000
namespace K10
open PySem PySem.Spec PyProof.Rows L2 Evl VG
/-! ### what the top has written -/
/-- a def of the text, where it stands -/
structure Fk (K : PySem.W.Frag) (x : Str) (st : Stmt) : Prop where
  ex : ∃ (f : Addr) (fd : FuncData), Fun K x x st f fd ∧ PySem.W.nsIn K mainGlobals x = some (some (.ref f)) ∧ PySem.W.keepIn K (.ref f) = true
theorem fk {K : PySem.W.Frag} {x : Str} {st : Stmt} {f : Addr} {oc : Value} {od an : Option Addr} {osl : Array (Option Value)} {kV doc pm cdv ct : Value} (a : PySem.W.nsIn K mainGlobals x = some (some (.ref f)))
    (l : K.lookup f = some ⟨oc, od, .func (PySem.W.fnOf x x (defArgs st) (defBody st) (defScope st) .none kV doc pm an cdv ct), osl⟩) (c : PySem.W.codeIn K cdv x = true) (k : PySem.W.keepIn K (.ref f) = true) : Fk K x st :=
  ⟨f, _, fun_mk l c k, a, k⟩
theorem all_mk {l : PySem.W.OpenLaw} {w : World} {K : PySem.W.Frag} {h : Heap} {mg : Str → Option Value} {fa : Addr} (X : K.In h) (G : h.Ns mainGlobals mg) (hfa : mg "law" = some (.ref fa))
    (h_is_integer : Fk K "is_integer" s_is_integer)
    (h_is_name : Fk K "is_name" s_is_name)
    (h_is_row_of : Fk K "is_row_of" s_is_row_of)
    (h_ascends : Fk K "ascends" s_ascends)
    (h_are_names : Fk K "are_names" s_are_names)
    (h_is_line : Fk K "is_line" s_is_line)
    (h_is_trade : Fk K "is_trade" s_is_trade)
    (h_is_stock : Fk K "is_stock" s_is_stock)
    (h_check_stock : Fk K "check_stock" s_check_stock)
    (h_trade_table : Fk K "trade_table" s_trade_table)
    (h_steps_for : Fk K "steps_for" s_steps_for)
    (h_levels_from : Fk K "levels_from" s_levels_from)
    (h_least_for : Fk K "least_for" s_least_for)
    (h_checked_steps : Fk K "checked_steps" s_checked_steps)
    (h_levels : Fk K "levels" s_levels)
    (h_least : Fk K "least" s_least)
    (h_net : Fk K "net" s_net)
    (h_told_back : Fk K "told_back" s_told_back)
    (h_law_pot : Fk K "_law_pot" s_law_pot)
    (h_law_take : Fk K "_law_take" s_law_take)
    (h_law_of : Fk K "_law_of" s_law_of)
    (h_law_some : Fk K "_law_some" s_law_some)
    (h_law_cells : Fk K "_law_cells" s_law_cells)
    (h_law_names : Fk K "_law_names" s_law_names)
    (h_law_trade : Fk K "_law_trade" s_law_trade)
    (h_law_trade_told : Fk K "_law_trade_told" s_law_trade_told)
    (h_law_levels : Fk K "_law_levels" s_law_levels)
    (h_law_least : Fk K "_law_least" s_law_least)
    (h_law_back : Fk K "_law_back" s_law_back)
    (h_law_right : Fk K "_law_right" s_law_right)
    (h_law : Fk K "law" s_law)
    {t_MOST_NEED : Tok} (c_MOST_NEED : PySem.W.nsIn K mainGlobals "MOST_NEED" = some (some (.int 9999 t_MOST_NEED))) {t_MOST_LINES : Tok} (c_MOST_LINES : PySem.W.nsIn K mainGlobals "MOST_LINES" = some (some (.int 16 t_MOST_LINES))) {t_MOST_STOCK : Tok} (c_MOST_STOCK : PySem.W.nsIn K mainGlobals "MOST_STOCK" = some (some (.int 99999 t_MOST_STOCK)))
    (z_abs : PySem.W.nsIn K mainGlobals "abs" = some none)
    (z_all : PySem.W.nsIn K mainGlobals "all" = some none)
    (z_dict : PySem.W.nsIn K mainGlobals "dict" = some none)
    (z_int : PySem.W.nsIn K mainGlobals "int" = some none)
    (z_bool : PySem.W.nsIn K mainGlobals "bool" = some none)
    (z_str : PySem.W.nsIn K mainGlobals "str" = some none)
    (z_isinstance : PySem.W.nsIn K mainGlobals "isinstance" = some none)
    (z_len : PySem.W.nsIn K mainGlobals "len" = some none)
    (z_list : PySem.W.nsIn K mainGlobals "list" = some none)
    (z_max : PySem.W.nsIn K mainGlobals "max" = some none)
    (z_min : PySem.W.nsIn K mainGlobals "min" = some none)
    (z_range : PySem.W.nsIn K mainGlobals "range" = some none)
    (z_repr : PySem.W.nsIn K mainGlobals "repr" = some none)
    (z_set : PySem.W.nsIn K mainGlobals "set" = some none)
    (z_sorted : PySem.W.nsIn K mainGlobals "sorted" = some none)
    (z_sum : PySem.W.nsIn K mainGlobals "sum" = some none)
    (z_tuple : PySem.W.nsIn K mainGlobals "tuple" = some none) :
    ∃ fd : FuncData, (∀ (s : Shared) (v : Value), BindsTo s fd ⟨[v], []⟩ [("_law_script", v)]) ∧ ∀ base : Heap, K.In base → base.Ns mainGlobals mg → FnG l.prog w K mg base CX0 8 fa fd ["_law_script"] (spLaw K) := by
  have B : Bltn mg := ⟨PySem.W.mg_none_of X G z_abs, PySem.W.mg_none_of X G z_all, PySem.W.mg_none_of X G z_dict, PySem.W.mg_none_of X G z_int, PySem.W.mg_none_of X G z_bool, PySem.W.mg_none_of X G z_str, PySem.W.mg_none_of X G z_isinstance, PySem.W.mg_none_of X G z_len, PySem.W.mg_none_of X G z_list, PySem.W.mg_none_of X G z_max, PySem.W.mg_none_of X G z_min, PySem.W.mg_none_of X G z_range, PySem.W.mg_none_of X G z_repr, PySem.W.mg_none_of X G z_set, PySem.W.mg_none_of X G z_sorted, PySem.W.mg_none_of X G z_sum, PySem.W.mg_none_of X G z_tuple⟩
  have C_MOST_NEED := PySem.W.mg_of X G c_MOST_NEED
  have C_MOST_LINES := PySem.W.mg_of X G c_MOST_LINES
  have C_MOST_STOCK := PySem.W.mg_of X G c_MOST_STOCK
  obtain ⟨f0, fd0, F0, a0, k0⟩ := h_law.ex
  have e := hfa.symm.trans (PySem.W.mg_of X G a0)
  cases e
  refine ⟨fd0, ?_, fun base _ _ => ?_⟩
  · obtain ⟨oc, od, kV, doc, pm, an, cdv, ct, osl, rfl, lk, hcd⟩ := F0.ex
    exact fun s v => .of_eq rfl
  · obtain ⟨f, fd, F, a, k⟩ := h_is_integer.ex
    have D_is_integer : Def l.prog w K mg base 1 "is_integer" ["value"] (spOf K 1 okInteger) := ⟨f, fd, ok_is_integer F B, PySem.W.mg_of X G a, k, F.binds (ps := ["value"]) fun _ _ _ _ _ _ us hl => match us, hl with | [_], _ => rfl⟩
    clear F a k
    obtain ⟨f, fd, F, a, k⟩ := h_is_name.ex
    have D_is_name : Def l.prog w K mg base 1 "is_name" ["value"] (spOf K 1 okName) := ⟨f, fd, ok_is_name F B, PySem.W.mg_of X G a, k, F.binds (ps := ["value"]) fun _ _ _ _ _ _ us hl => match us, hl with | [_], _ => rfl⟩
    clear F a k
    obtain ⟨f, fd, F, a, k⟩ := h_is_row_of.ex
    have D_is_row_of : Def l.prog w K mg base 1 "is_row_of" ["value", "size"] (spOf K 2 okRowOf) := ⟨f, fd, ok_is_row_of F B, PySem.W.mg_of X G a, k, F.binds (ps := ["value", "size"]) fun _ _ _ _ _ _ us hl => match us, hl with | [_, _], _ => rfl⟩
    clear F a k
    obtain ⟨f, fd, F, a, k⟩ := h_ascends.ex
    have D_ascends : Def l.prog w K mg base 1 "ascends" ["rows"] (spOf K 1 okAsc) := ⟨f, fd, ok_ascends F B, PySem.W.mg_of X G a, k, F.binds (ps := ["rows"]) fun _ _ _ _ _ _ us hl => match us, hl with | [_], _ => rfl⟩
    clear F a k
    obtain ⟨f, fd, F, a, k⟩ := h_are_names.ex
    have D_are_names : Def l.prog w K mg base 2 "are_names" ["value"] (spOf K 1 okNames) := ⟨f, fd, ok_are_names F B D_is_name, PySem.W.mg_of X G a, k, F.binds (ps := ["value"]) fun _ _ _ _ _ _ us hl => match us, hl with | [_], _ => rfl⟩
    clear F a k
    obtain ⟨f, fd, F, a, k⟩ := h_is_line.ex
    have D_is_line : Def l.prog w K mg base 2 "is_line" ["value"] (spOf K 1 okLine) := ⟨f, fd, ok_is_line F B C_MOST_NEED D_is_row_of D_is_name D_is_integer, PySem.W.mg_of X G a, k, F.binds (ps := ["value"]) fun _ _ _ _ _ _ us hl => match us, hl with | [_], _ => rfl⟩
    clear F a k
    obtain ⟨f, fd, F, a, k⟩ := h_is_trade.ex
    have D_is_trade : Def l.prog w K mg base 3 "is_trade" ["value"] (spOf K 1 okTrade) := ⟨f, fd, ok_is_trade F B C_MOST_LINES D_is_line D_ascends, PySem.W.mg_of X G a, k, F.binds (ps := ["value"]) fun _ _ _ _ _ _ us hl => match us, hl with | [_], _ => rfl⟩
    clear F a k
    obtain ⟨f, fd, F, a, k⟩ := h_is_stock.ex
    have D_is_stock : Def l.prog w K mg base 2 "is_stock" ["value"] (spOf K 1 okStock) := ⟨f, fd, ok_is_stock F B C_MOST_STOCK D_is_integer, PySem.W.mg_of X G a, k, F.binds (ps := ["value"]) fun _ _ _ _ _ _ us hl => match us, hl with | [_], _ => rfl⟩
    clear F a k
    obtain ⟨f, fd, F, a, k⟩ := h_check_stock.ex
    have D_check_stock : Def l.prog w K mg base 3 "check_stock" ["stock"] (spOf K 1 okCheck) := ⟨f, fd, ok_check_stock F D_is_stock, PySem.W.mg_of X G a, k, F.binds (ps := ["stock"]) fun _ _ _ _ _ _ us hl => match us, hl with | [_], _ => rfl⟩
    clear F a k
    obtain ⟨f, fd, F, a, k⟩ := h_trade_table.ex
    have D_trade_table : Def l.prog w K mg base 4 "trade_table" ["trade"] (spTable K) := ⟨f, fd, ok_trade_table F D_is_trade, PySem.W.mg_of X G a, k, F.binds (ps := ["trade"]) fun _ _ _ _ _ _ us hl => match us, hl with | [_], _ => rfl⟩
    clear F a k
    obtain ⟨f, fd, F, a, k⟩ := h_steps_for.ex
    have D_steps_for : Def l.prog w K mg base 1 "steps_for" ["table", "tasks"] (spSteps K) := ⟨f, fd, ok_steps_for F , PySem.W.mg_of X G a, k, F.binds (ps := ["table", "tasks"]) fun _ _ _ _ _ _ us hl => match us, hl with | [_, _], _ => rfl⟩
    clear F a k
    obtain ⟨f, fd, F, a, k⟩ := h_levels_from.ex
    have D_levels_from : Def l.prog w K mg base 1 "levels_from" ["stock", "steps"] (spOf K 2 okLevelsFrom) := ⟨f, fd, ok_levels_from F , PySem.W.mg_of X G a, k, F.binds (ps := ["stock", "steps"]) fun _ _ _ _ _ _ us hl => match us, hl with | [_, _], _ => rfl⟩
    clear F a k
    obtain ⟨f, fd, F, a, k⟩ := h_least_for.ex
    have D_least_for : Def l.prog w K mg base 1 "least_for" ["steps"] (spOf K 1 okLeastFor) := ⟨f, fd, ok_least_for F B, PySem.W.mg_of X G a, k, F.binds (ps := ["steps"]) fun _ _ _ _ _ _ us hl => match us, hl with | [_], _ => rfl⟩
    clear F a k
    obtain ⟨f, fd, F, a, k⟩ := h_checked_steps.ex
    have D_checked_steps : Def l.prog w K mg base 5 "checked_steps" ["trade", "tasks"] (spOf K 2 okChecked) := ⟨f, fd, ok_checked_steps F B D_trade_table D_are_names D_steps_for, PySem.W.mg_of X G a, k, F.binds (ps := ["trade", "tasks"]) fun _ _ _ _ _ _ us hl => match us, hl with | [_, _], _ => rfl⟩
    clear F a k
    obtain ⟨f, fd, F, a, k⟩ := h_levels.ex
    have D_levels : Def l.prog w K mg base 6 "levels" ["trade", "stock", "tasks"] (spOf K 3 okLevels) := ⟨f, fd, ok_levels F B D_trade_table D_check_stock D_levels_from D_checked_steps, PySem.W.mg_of X G a, k, F.binds (ps := ["trade", "stock", "tasks"]) fun _ _ _ _ _ _ us hl => match us, hl with | [_, _, _], _ => rfl⟩
    clear F a k
    obtain ⟨f, fd, F, a, k⟩ := h_least.ex
    have D_least : Def l.prog w K mg base 6 "least" ["trade", "tasks"] (spOf K 2 okLeast) := ⟨f, fd, ok_least F D_least_for D_checked_steps, PySem.W.mg_of X G a, k, F.binds (ps := ["trade", "tasks"]) fun _ _ _ _ _ _ us hl => match us, hl with | [_, _], _ => rfl⟩
    clear F a k
    obtain ⟨f, fd, F, a, k⟩ := h_net.ex
    have D_net : Def l.prog w K mg base 6 "net" ["trade", "tasks"] (spOf K 2 okNet) := ⟨f, fd, ok_net F B D_checked_steps, PySem.W.mg_of X G a, k, F.binds (ps := ["trade", "tasks"]) fun _ _ _ _ _ _ us hl => match us, hl with | [_, _], _ => rfl⟩
    clear F a k
    obtain ⟨f, fd, F, a, k⟩ := h_told_back.ex
    have D_told_back : Def l.prog w K mg base 5 "told_back" ["trade"] (spOf K 1 okBack) := ⟨f, fd, ok_told_back F B D_trade_table, PySem.W.mg_of X G a, k, F.binds (ps := ["trade"]) fun _ _ _ _ _ _ us hl => match us, hl with | [_], _ => rfl⟩
    clear F a k
    obtain ⟨f, fd, F, a, k⟩ := h_law_pot.ex
    have D_law_pot : Def l.prog w K mg base 1 "_law_pot" ["_law_script", "_law_place"] (spPot K) := ⟨f, fd, ok_pot F B, PySem.W.mg_of X G a, k, F.binds (ps := ["_law_script", "_law_place"]) fun _ _ _ _ _ _ us hl => match us, hl with | [_, _], _ => rfl⟩
    clear F a k
    obtain ⟨f, fd, F, a, k⟩ := h_law_take.ex
    have D_law_take : Def l.prog w K mg base 1 "_law_take" ["_law_pot_here", "_law_upto"] spTake := ⟨f, fd, ok_take F B, PySem.W.mg_of X G a, k, F.binds (ps := ["_law_pot_here", "_law_upto"]) fun _ _ _ _ _ _ us hl => match us, hl with | [_, _], _ => rfl⟩
    clear F a k
    obtain ⟨f, fd, F, a, k⟩ := h_law_of.ex
    have D_law_of : Def l.prog w K mg base 2 "_law_of" ["_law_pot_here", "_law_some_here"] (spOne K) := ⟨f, fd, ok_of F B D_law_take, PySem.W.mg_of X G a, k, F.binds (ps := ["_law_pot_here", "_law_some_here"]) fun _ _ _ _ _ _ us hl => match us, hl with | [_, _], _ => rfl⟩
    clear F a k
    obtain ⟨f, fd, F, a, k⟩ := h_law_some.ex
    have D_law_some : Def l.prog w K mg base 2 "_law_some" ["_law_pot_here", "_law_pool", "_law_amount"] (spSome K) := ⟨f, fd, ok_some F B D_law_take, PySem.W.mg_of X G a, k, F.binds (ps := ["_law_pot_here", "_law_pool", "_law_amount"]) fun _ _ _ _ _ _ us hl => match us, hl with | [_, _, _], _ => rfl⟩
    clear F a k
    obtain ⟨f, fd, F, a, k⟩ := h_law_cells.ex
    have D_law_cells : Def l.prog w K mg base 1 "_law_cells" ["_law_script", "_law_limit"] (spCells K) := ⟨f, fd, ok_cells F B, PySem.W.mg_of X G a, k, F.binds (ps := ["_law_script", "_law_limit"]) fun _ _ _ _ _ _ us hl => match us, hl with | [_, _], _ => rfl⟩
    clear F a k
    obtain ⟨f, fd, F, a, k⟩ := h_law_names.ex
    have D_law_names : Def l.prog w K mg base 3 "_law_names" ["_law_pot_here", "_law_amount"] spNames := ⟨f, fd, ok_names F D_law_some, PySem.W.mg_of X G a, k, F.binds (ps := ["_law_pot_here", "_law_amount"]) fun _ _ _ _ _ _ us hl => match us, hl with | [_, _], _ => rfl⟩
    clear F a k
    obtain ⟨f, fd, F, a, k⟩ := h_law_trade.ex
    have D_law_trade : Def l.prog w K mg base 3 "_law_trade" ["_law_pot_here", "_law_tasks", "_law_great"] (spTrade K) := ⟨f, fd, ok_trade F D_law_take D_law_of, PySem.W.mg_of X G a, k, F.binds (ps := ["_law_pot_here", "_law_tasks", "_law_great"]) fun _ _ _ _ _ _ us hl => match us, hl with | [_, _, _], _ => rfl⟩
    clear F a k
    obtain ⟨f, fd, F, a, k⟩ := h_law_trade_told.ex
    have D_law_trade_told : Def l.prog w K mg base 1 "_law_trade_told" ["_law_trade_here"] (spTold K) := ⟨f, fd, ok_trade_told F B, PySem.W.mg_of X G a, k, F.binds (ps := ["_law_trade_here"]) fun _ _ _ _ _ _ us hl => match us, hl with | [_], _ => rfl⟩
    clear F a k
    obtain ⟨f, fd, F, a, k⟩ := h_law_levels.ex
    have D_law_levels : Def l.prog w K mg base 1 "_law_levels" ["_law_trade_here", "_law_stock", "_law_tasks"] (spLevels K) := ⟨f, fd, ok_law_levels F B, PySem.W.mg_of X G a, k, F.binds (ps := ["_law_trade_here", "_law_stock", "_law_tasks"]) fun _ _ _ _ _ _ us hl => match us, hl with | [_, _, _], _ => rfl⟩
    clear F a k
    obtain ⟨f, fd, F, a, k⟩ := h_law_least.ex
    have D_law_least : Def l.prog w K mg base 1 "_law_least" ["_law_trade_here", "_law_tasks"] (spLeast K) := ⟨f, fd, ok_law_least F B, PySem.W.mg_of X G a, k, F.binds (ps := ["_law_trade_here", "_law_tasks"]) fun _ _ _ _ _ _ us hl => match us, hl with | [_, _], _ => rfl⟩
    clear F a k
    obtain ⟨f, fd, F, a, k⟩ := h_law_back.ex
    have D_law_back : Def l.prog w K mg base 1 "_law_back" ["_law_trade_here"] (spBack K) := ⟨f, fd, ok_law_back F B, PySem.W.mg_of X G a, k, F.binds (ps := ["_law_trade_here"]) fun _ _ _ _ _ _ us hl => match us, hl with | [_], _ => rfl⟩
    clear F a k
    obtain ⟨f, fd, F, a, k⟩ := h_law_right.ex
    have D_law_right : Def l.prog w K mg base 7 "_law_right" ["_law_pot_here"] spRight := ⟨f, fd, ok_right F B D_law_names D_law_trade D_law_of D_law_trade_told D_law_some D_law_take D_law_least D_least D_net D_told_back D_law_back D_levels D_law_levels, PySem.W.mg_of X G a, k, F.binds (ps := ["_law_pot_here"]) fun _ _ _ _ _ _ us hl => match us, hl with | [_], _ => rfl⟩
    clear F a k
    exact ok_law F0 B D_law_cells D_law_pot D_law_right
end K10

open PySem PySem.W PyProof.Rows in
set_option maxRecDepth 100000 in
set_option maxHeartbeats 0 in
theorem PySem.Challenge.cw_enoughhands_k10_whole_levels_and_least_s_holds : PySem.Challenge.rw_enoughhands_k10_whole_levels_and_least_s.Holds := by
  w_on; o_law; k_head; (case hw => w_witness2)
  k_fill
  refine VG.walkG (l := PySem.Challenge.rw_enoughhands_k10_whole_levels_and_least_s) (n := 63) (k := 8) (x := "_law_script") (sp := fun K => K10.spLaw K) rfl (by decide) rfl ?R (fun w h Y => PySem.W.kIn_of Y) ?F (fun K H a ns hl _ hS => ⟨a, ns, rfl, hS, hl, fun _ _ => rfl⟩)
  case R => exact ⟨rfl, by decide, by decide⟩
  case F =>
    intro w mg fa h KX G hmg
    refine' K10.all_mk KX G hmg (K10.fk ?a_is_integer ?l_is_integer ?c_is_integer ?k_is_integer) (K10.fk ?a_is_name ?l_is_name ?c_is_name ?k_is_name) (K10.fk ?a_is_row_of ?l_is_row_of ?c_is_row_of ?k_is_row_of) (K10.fk ?a_ascends ?l_ascends ?c_ascends ?k_ascends) (K10.fk ?a_are_names ?l_are_names ?c_are_names ?k_are_names) (K10.fk ?a_is_line ?l_is_line ?c_is_line ?k_is_line) (K10.fk ?a_is_trade ?l_is_trade ?c_is_trade ?k_is_trade) (K10.fk ?a_is_stock ?l_is_stock ?c_is_stock ?k_is_stock) (K10.fk ?a_check_stock ?l_check_stock ?c_check_stock ?k_check_stock) (K10.fk ?a_trade_table ?l_trade_table ?c_trade_table ?k_trade_table) (K10.fk ?a_steps_for ?l_steps_for ?c_steps_for ?k_steps_for) (K10.fk ?a_levels_from ?l_levels_from ?c_levels_from ?k_levels_from) (K10.fk ?a_least_for ?l_least_for ?c_least_for ?k_least_for) (K10.fk ?a_checked_steps ?l_checked_steps ?c_checked_steps ?k_checked_steps) (K10.fk ?a_levels ?l_levels ?c_levels ?k_levels) (K10.fk ?a_least ?l_least ?c_least ?k_least) (K10.fk ?a_net ?l_net ?c_net ?k_net) (K10.fk ?a_told_back ?l_told_back ?c_told_back ?k_told_back) (K10.fk ?a_law_pot ?l_law_pot ?c_law_pot ?k_law_pot) (K10.fk ?a_law_take ?l_law_take ?c_law_take ?k_law_take) (K10.fk ?a_law_of ?l_law_of ?c_law_of ?k_law_of) (K10.fk ?a_law_some ?l_law_some ?c_law_some ?k_law_some) (K10.fk ?a_law_cells ?l_law_cells ?c_law_cells ?k_law_cells) (K10.fk ?a_law_names ?l_law_names ?c_law_names ?k_law_names) (K10.fk ?a_law_trade ?l_law_trade ?c_law_trade ?k_law_trade) (K10.fk ?a_law_trade_told ?l_law_trade_told ?c_law_trade_told ?k_law_trade_told) (K10.fk ?a_law_levels ?l_law_levels ?c_law_levels ?k_law_levels) (K10.fk ?a_law_least ?l_law_least ?c_law_least ?k_law_least) (K10.fk ?a_law_back ?l_law_back ?c_law_back ?k_law_back) (K10.fk ?a_law_right ?l_law_right ?c_law_right ?k_law_right) (K10.fk ?a_law ?l_law ?c_law ?k_law) ?m_MOST_NEED ?m_MOST_LINES ?m_MOST_STOCK ?z_abs ?z_all ?z_dict ?z_int ?z_bool ?z_str ?z_isinstance ?z_len ?z_list ?z_max ?z_min ?z_range ?z_repr ?z_set ?z_sorted ?z_sum ?z_tuple
    (case a_is_integer => k_is)
    (case l_is_integer => k_is)
    (case c_is_integer => k_is)
    (case k_is_integer => k_is)
    (case a_is_name => k_is)
    (case l_is_name => k_is)
    (case c_is_name => k_is)
    (case k_is_name => k_is)
    (case a_is_row_of => k_is)
    (case l_is_row_of => k_is)
    (case c_is_row_of => k_is)
    (case k_is_row_of => k_is)
    (case a_ascends => k_is)
    (case l_ascends => k_is)
    (case c_ascends => k_is)
    (case k_ascends => k_is)
    (case a_are_names => k_is)
    (case l_are_names => k_is)
    (case c_are_names => k_is)
    (case k_are_names => k_is)
    (case a_is_line => k_is)
    (case l_is_line => k_is)
    (case c_is_line => k_is)
    (case k_is_line => k_is)
    (case a_is_trade => k_is)
    (case l_is_trade => k_is)
    (case c_is_trade => k_is)
    (case k_is_trade => k_is)
    (case a_is_stock => k_is)
    (case l_is_stock => k_is)
    (case c_is_stock => k_is)
    (case k_is_stock => k_is)
    (case a_check_stock => k_is)
    (case l_check_stock => k_is)
    (case c_check_stock => k_is)
    (case k_check_stock => k_is)
    (case a_trade_table => k_is)
    (case l_trade_table => k_is)
    (case c_trade_table => k_is)
    (case k_trade_table => k_is)
    (case a_steps_for => k_is)
    (case l_steps_for => k_is)
    (case c_steps_for => k_is)
    (case k_steps_for => k_is)
    (case a_levels_from => k_is)
    (case l_levels_from => k_is)
    (case c_levels_from => k_is)
    (case k_levels_from => k_is)
    (case a_least_for => k_is)
    (case l_least_for => k_is)
    (case c_least_for => k_is)
    (case k_least_for => k_is)
    (case a_checked_steps => k_is)
    (case l_checked_steps => k_is)
    (case c_checked_steps => k_is)
    (case k_checked_steps => k_is)
    (case a_levels => k_is)
    (case l_levels => k_is)
    (case c_levels => k_is)
    (case k_levels => k_is)
    (case a_least => k_is)
    (case l_least => k_is)
    (case c_least => k_is)
    (case k_least => k_is)
    (case a_net => k_is)
    (case l_net => k_is)
    (case c_net => k_is)
    (case k_net => k_is)
    (case a_told_back => k_is)
    (case l_told_back => k_is)
    (case c_told_back => k_is)
    (case k_told_back => k_is)
    (case a_law_pot => k_is)
    (case l_law_pot => k_is)
    (case c_law_pot => k_is)
    (case k_law_pot => k_is)
    (case a_law_take => k_is)
    (case l_law_take => k_is)
    (case c_law_take => k_is)
    (case k_law_take => k_is)
    (case a_law_of => k_is)
    (case l_law_of => k_is)
    (case c_law_of => k_is)
    (case k_law_of => k_is)
    (case a_law_some => k_is)
    (case l_law_some => k_is)
    (case c_law_some => k_is)
    (case k_law_some => k_is)
    (case a_law_cells => k_is)
    (case l_law_cells => k_is)
    (case c_law_cells => k_is)
    (case k_law_cells => k_is)
    (case a_law_names => k_is)
    (case l_law_names => k_is)
    (case c_law_names => k_is)
    (case k_law_names => k_is)
    (case a_law_trade => k_is)
    (case l_law_trade => k_is)
    (case c_law_trade => k_is)
    (case k_law_trade => k_is)
    (case a_law_trade_told => k_is)
    (case l_law_trade_told => k_is)
    (case c_law_trade_told => k_is)
    (case k_law_trade_told => k_is)
    (case a_law_levels => k_is)
    (case l_law_levels => k_is)
    (case c_law_levels => k_is)
    (case k_law_levels => k_is)
    (case a_law_least => k_is)
    (case l_law_least => k_is)
    (case c_law_least => k_is)
    (case k_law_least => k_is)
    (case a_law_back => k_is)
    (case l_law_back => k_is)
    (case c_law_back => k_is)
    (case k_law_back => k_is)
    (case a_law_right => k_is)
    (case l_law_right => k_is)
    (case c_law_right => k_is)
    (case k_law_right => k_is)
    (case a_law => k_is)
    (case l_law => k_is)
    (case c_law => k_is)
    (case k_law => k_is)
    (case m_MOST_NEED => k_is)
    (case m_MOST_LINES => k_is)
    (case m_MOST_STOCK => k_is)
    (case z_abs => k_is)
    (case z_all => k_is)
    (case z_dict => k_is)
    (case z_int => k_is)
    (case z_bool => k_is)
    (case z_str => k_is)
    (case z_isinstance => k_is)
    (case z_len => k_is)
    (case z_list => k_is)
    (case z_max => k_is)
    (case z_min => k_is)
    (case z_range => k_is)
    (case z_repr => k_is)
    (case z_set => k_is)
    (case z_sorted => k_is)
    (case z_sum => k_is)
    (case z_tuple => k_is)
